/- The document's Rank and Forest, walked. -/
import Derived.Test.YtfpfhnkboakejaaJRank
import Derived.Test.YtfpfhnkboakejaaJRefP
namespace Go.Proofs.Ytfpfhnkboakejaa
open Go.RowKit
namespace Wp

set_option maxHeartbeats 4000000 in
set_option maxRecDepth 100000 in
theorem refrank_bad (n : Int) (v : Value) (es : List (Int × Int)) (w : World) (hr : Edges w w.heap.size v es) (hl : es.length ≤ 1048576) (hb : isG n es = false) :
    Calls Try.prog 16 #[.int .i64 n, v] w (Counts w (-1)) := by
  have Hr := Lib.hid hr
  have Hb := Lib.hid hb
  obtain ⟨A, c, rfl, _⟩ := hr
  clear hb
  go_enter Try.func16, Try.ntmps16
  go_wp2_with fail
  refine (refparts_bad n _ es w Hr.out hl Hb.out).mono ?_
  rintro e w1 ⟨rfl, hb1⟩
  go_wp2
  go_ret
  exact ⟨rfl, hb1⟩

set_option maxHeartbeats 4000000 in
set_option maxRecDepth 100000 in
theorem refrank_good (m : Nat) (v : Value) (ns : List (Nat × Nat)) (w : World) (hr : Edges w w.heap.size v (castE ns)) (h1 : 1 ≤ m) (h2 : m ≤ 64) (h3 : ns.length ≤ 4096) (h4 : Lies m ns) :
    Calls Try.prog 16 #[.int .i64 m, v] w (Counts w (rankN m ns)) := by
  have Hp := Lib.hid (refparts_good m v ns w hr h1 h2 h3 h4)
  have h2' : (m : Int) ≤ 64 := by omega
  have h1' : 1 ≤ (m : Int) := by omega
  obtain ⟨A, c, rfl, _⟩ := hr
  clear h4 h3
  go_enter Try.func16, Try.ntmps16
  go_wp2_with fail
  refine Hp.out.mono ?_
  rintro e w1 ⟨v1, rfl, hr1, hb1⟩
  obtain ⟨A1, c1, rfl, _⟩ := hr1
  rw [castP_length, parts_length]
  have hk := cnt_le (rootB (compF ns)) m
  have Hk : Hid ((m : Int) - (cnt (rootB (compF ns)) m : Int) = rankN m ns) := rfl
  generalize cnt (rootB (compF ns)) m = k at *
  have hk' : (k : Int) ≤ m := by omega
  go_wp2
  go_ret
  exact ⟨by rw [← Hk.out]; rfl, hb1⟩

set_option maxHeartbeats 4000000 in
set_option maxRecDepth 100000 in
theorem refforest_bad (n : Int) (v : Value) (es : List (Int × Int)) (w : World) (hr : Edges w w.heap.size v es) (hl : es.length ≤ 1048576) (hb : isG n es = false) :
    Calls Try.prog 18 #[.int .i64 n, v] w (Says w false) := by
  have Hp := Lib.hid (refrank_bad n v es w hr hl hb)
  obtain ⟨A, c, rfl, _⟩ := hr
  have hl' : (es.length : Int) ≤ 1048576 := by omega
  have hne : ((-1 : Int) == (es.length : Int)) = false := by rw [beq_eq_false_iff_ne]; omega
  clear hb
  go_enter Try.func18, Try.ntmps18
  go_wp2_with fail
  refine Hp.out.mono ?_
  rintro e w1 ⟨rfl, hb1⟩
  go_wp2
  go_ret
  exact ⟨rfl, hb1⟩

set_option maxHeartbeats 4000000 in
set_option maxRecDepth 100000 in
theorem refforest_good (m : Nat) (v : Value) (ns : List (Nat × Nat)) (w : World) (hr : Edges w w.heap.size v (castE ns)) (h1 : 1 ≤ m) (h2 : m ≤ 64) (h3 : ns.length ≤ 4096) (h4 : Lies m ns) (b : Bool) (hb : (rankN m ns == (ns.length : Int)) = b) :
    Calls Try.prog 18 #[.int .i64 m, v] w (Says w b) := by
  have Hp := Lib.hid (refrank_good m v ns w hr h1 h2 h3 h4)
  have Hb := Lib.hid hb
  obtain ⟨A, c, hv, _⟩ := hr
  rw [castE_length] at hv
  subst hv
  have hl' : (ns.length : Int) ≤ 4096 := by omega
  clear h4 h3 hb
  go_enter Try.func18, Try.ntmps18
  go_wp2_with fail
  refine Hp.out.mono ?_
  rintro e w1 ⟨rfl, hb1⟩
  generalize rankN m ns = r at *
  go_wp2
  go_ret
  exact ⟨by rw [← Hb.out]; rfl, hb1⟩

end Wp
end Go.Proofs.Ytfpfhnkboakejaa
