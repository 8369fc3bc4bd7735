/- IndepKinds, walked: it answers true. -/
import Derived.Test.YtbjngggcpojefaaGreatDoorIKeep
import Derived.Test.YtbjngggcpojefaaGreatDoorIKindP
import Derived.Test.YtbjngggcpojefaaGreatDoorIJRef
import Derived.Test.YtbjngggcpojefaaGreatDoorZT
import Derived.Deep.RegionHeld3
import Derived.Deep.RegionLaw
import Derived.Deep.AppendLies
namespace Go.Proofs.YtbjngggcpojefaaGreatDoor
open Go.RowKit
namespace Wp

theorem infoL : (Tryz.prog.info? 26).map (fun i => (i.zero, i.size, i.bytes)) = some (some (.slice none 0 0), 1, 24) := by kernel_rfl
theorem lit_cell_at (w : World) (n : Nat) (hn : w.heap.size = n) (t : TypeId) (u : Value) : ∀ (j : Nat) (v : Value), [u][j]? = some v → (w.alloc (.cells #[u] t)).drew.cell? ((⟨n, 0, none⟩ : Addr).add j) = some v := by
  subst hn
  exact fun j v hj => lit_cell w t u j v hj
theorem grown_set_cell (w : World) (g i : Nat) (u : Value) : w.grownBy (w.setCell ⟨g, i, none⟩ u) (some g) := only_setCell (World.grownBy.refl w (some g)) (.inl rfl) u
/-- Two matroids written out, one behind the other. -/
theorem lit_mats_two {W : World} {c0 c1 c2 c3 c4 c5 d0 d1 d2 d3 d4 d5 : Value} {m u : Mat} (h : MatV W W.heap.size (.agg #[c0, c1, c2, c3, c4, c5]) m) (k : MatV W W.heap.size (.agg #[d0, d1, d2, d3, d4, d5]) u) :
    MatL (W.alloc (.cells #[c0, c1, c2, c3, c4, c5, d0, d1, d2, d3, d4, d5] 25)) (W.heap.size + 1) (.slice (some ⟨W.heap.size, 0, none⟩) 2 2) [m, u] := by
  have hb := Blk.new W 25 #[c0, c1, c2, c3, c4, c5, d0, d1, d2, d3, d4, d5]
  have hw : Below W.heap.size W (W.alloc (.cells #[c0, c1, c2, c3, c4, c5, d0, d1, d2, d3, d4, d5] 25)) := (Below.refl _ W).alloc (Nat.le_refl _) _
  refine ⟨_, 2, rfl, ⟨Nat.le_refl _, by decide, fun e => by cases e⟩, fun j hj => ?_⟩
  match j, hj with
  | 0, _ => exact ⟨⟨W.heap.size, 0, none⟩, .agg #[c0, c1, c2, c3, c4, c5], rfl, by show W.heap.size < _; omega, ⟨c0, c1, c2, c3, c4, c5, rfl, hb.cell 0, hb.cell 1, hb.cell 2, hb.cell 3, hb.cell 4, hb.cell 5⟩, (h.bel hw).mono (by omega)⟩
  | 1, _ => exact ⟨⟨W.heap.size, 0, none⟩, .agg #[d0, d1, d2, d3, d4, d5], rfl, by show W.heap.size < _; omega, ⟨d0, d1, d2, d3, d4, d5, rfl, hb.cell 6, hb.cell 7, hb.cell 8, hb.cell 9, hb.cell 10, hb.cell 11⟩, (k.bel hw).mono (by omega)⟩

set_option maxHeartbeats 16000000 in
set_option maxRecDepth 100000 in
theorem kinds_1 (E : Nat → Addr) (n k : Int) (v : Value) (es : List (Int × Int)) (w : World) (hr : Edges w w.heap.size v es) (hE : Env E w) (h1 : 8 < n) : Calls Tryz.prog 5 #[.int .i64 n, v, .int .i64 k] w (Truly w) := by
  obtain ⟨A, c, hv, _⟩ := id hr
  subst hv
  have HR := Lib.hid hr
  have HE := Lib.hid hE
  clear hr hE
  go_enter Tryz.func5, Tryz.ntmps5
  go_wp2_with fail
  refine (fixed_any E _ HE.out).mono ?_
  rintro e w1 ⟨rfl, hb1⟩
  have HB := Lib.hid hb1
  clear hb1
  go_wp2_with fail
  refine (fixed_any E _ (HE.out.up HB.out)).mono ?_
  rintro e w9 ⟨rfl, hb9⟩
  replace HB := Lib.hid (below_next HB.out (Nat.le_refl _) hb9)
  clear hb9
  go_wp2
  go_ret
  exact ⟨rfl, HB.out⟩

set_option maxHeartbeats 16000000 in
set_option maxRecDepth 100000 in
theorem kinds_2 (E : Nat → Addr) (n k : Int) (v : Value) (es : List (Int × Int)) (w : World) (hr : Edges w w.heap.size v es) (hE : Env E w) (h1 : n ≤ 8) (h2 : 8 < (es.length : Int)) : Calls Tryz.prog 5 #[.int .i64 n, v, .int .i64 k] w (Truly w) := by
  obtain ⟨A, c, hv, _⟩ := id hr
  subst hv
  have HR := Lib.hid hr
  have HE := Lib.hid hE
  clear hr hE
  go_enter Tryz.func5, Tryz.ntmps5
  go_wp2_with fail
  refine (fixed_any E _ HE.out).mono ?_
  rintro e w1 ⟨rfl, hb1⟩
  have HB := Lib.hid hb1
  clear hb1
  go_wp2_with fail
  refine (fixed_any E _ (HE.out.up HB.out)).mono ?_
  rintro e w9 ⟨rfl, hb9⟩
  replace HB := Lib.hid (below_next HB.out (Nat.le_refl _) hb9)
  clear hb9
  go_wp2
  go_ret
  exact ⟨rfl, HB.out⟩

set_option maxHeartbeats 16000000 in
set_option maxRecDepth 100000 in
theorem kinds_3 (E : Nat → Addr) (n k : Int) (v : Value) (es : List (Int × Int)) (w : World) (hr : Edges w w.heap.size v es) (hE : Env E w) (h1 : n ≤ 8) (h2 : (es.length : Int) ≤ 8) (hg : isG n es = false) : Calls Tryz.prog 5 #[.int .i64 n, v, .int .i64 k] w (Truly w) := by
  obtain ⟨A, c, hv, _⟩ := id hr
  subst hv
  have HR := Lib.hid hr
  have HE := Lib.hid hE
  have Hg := Lib.hid hg
  clear hg
  clear hr hE
  go_enter Tryz.func5, Tryz.ntmps5
  go_wp2_with fail
  refine (fixed_any E _ HE.out).mono ?_
  rintro e w1 ⟨rfl, hb1⟩
  have HB := Lib.hid hb1
  clear hb1
  go_wp2_with fail
  refine (refgraph_is n _ es _ (HR.out.up HB.out) (by omega) Hg.out).mono ?_
  rintro e w2 ⟨rfl, hb2⟩
  replace HB := Lib.hid (below_next HB.out (Nat.le_refl _) hb2)
  clear hb2
  go_wp2_with fail
  refine (fixed_any E _ (HE.out.up HB.out)).mono ?_
  rintro e w9 ⟨rfl, hb9⟩
  replace HB := Lib.hid (below_next HB.out (Nat.le_refl _) hb9)
  clear hb9
  go_wp2
  go_ret
  exact ⟨rfl, HB.out⟩

set_option maxHeartbeats 16000000 in
set_option maxRecDepth 100000 in
theorem kinds_4 (E : Nat → Addr) (n k : Int) (v : Value) (es : List (Int × Int)) (w : World) (hr : Edges w w.heap.size v es) (hE : Env E w) (h1 : n ≤ 8) (h2 : (es.length : Int) ≤ 8) (hg : isG n es = true) (h3 : k < 0) : Calls Tryz.prog 5 #[.int .i64 n, v, .int .i64 k] w (Truly w) := by
  obtain ⟨A, c, hv, _⟩ := id hr
  subst hv
  have HR := Lib.hid hr
  have HE := Lib.hid hE
  have Hg := Lib.hid hg
  clear hg
  clear hr hE
  go_enter Tryz.func5, Tryz.ntmps5
  go_wp2_with fail
  refine (fixed_any E _ HE.out).mono ?_
  rintro e w1 ⟨rfl, hb1⟩
  have HB := Lib.hid hb1
  clear hb1
  go_wp2_with fail
  refine (refgraph_is n _ es _ (HR.out.up HB.out) (by omega) Hg.out).mono ?_
  rintro e w2 ⟨rfl, hb2⟩
  replace HB := Lib.hid (below_next HB.out (Nat.le_refl _) hb2)
  clear hb2
  go_wp2_with fail
  refine (fixed_any E _ (HE.out.up HB.out)).mono ?_
  rintro e w9 ⟨rfl, hb9⟩
  replace HB := Lib.hid (below_next HB.out (Nat.le_refl _) hb9)
  clear hb9
  go_wp2
  go_ret
  exact ⟨rfl, HB.out⟩

set_option maxHeartbeats 16000000 in
set_option maxRecDepth 100000 in
theorem kinds_5 (E : Nat → Addr) (n k : Int) (v : Value) (es : List (Int × Int)) (w : World) (hr : Edges w w.heap.size v es) (hE : Env E w) (h1 : n ≤ 8) (h2 : (es.length : Int) ≤ 8) (hg : isG n es = true) (h3 : 0 ≤ k) (h4 : (es.length : Int) < k) : Calls Tryz.prog 5 #[.int .i64 n, v, .int .i64 k] w (Truly w) := by
  obtain ⟨A, c, hv, _⟩ := id hr
  subst hv
  have HR := Lib.hid hr
  have HE := Lib.hid hE
  have Hg := Lib.hid hg
  clear hg
  clear hr hE
  go_enter Tryz.func5, Tryz.ntmps5
  go_wp2_with fail
  refine (fixed_any E _ HE.out).mono ?_
  rintro e w1 ⟨rfl, hb1⟩
  have HB := Lib.hid hb1
  clear hb1
  go_wp2_with fail
  refine (refgraph_is n _ es _ (HR.out.up HB.out) (by omega) Hg.out).mono ?_
  rintro e w2 ⟨rfl, hb2⟩
  replace HB := Lib.hid (below_next HB.out (Nat.le_refl _) hb2)
  clear hb2
  go_wp2_with fail
  refine (fixed_any E _ (HE.out.up HB.out)).mono ?_
  rintro e w9 ⟨rfl, hb9⟩
  replace HB := Lib.hid (below_next HB.out (Nat.le_refl _) hb9)
  clear hb9
  go_wp2
  go_ret
  exact ⟨rfl, HB.out⟩

set_option maxHeartbeats 16000000 in
set_option maxRecDepth 100000 in
theorem kinds_main (E : Nat → Addr) (n k : Nat) (v : Value) (ns : List (Nat × Nat)) (w : World) (hr : Edges w w.heap.size v (castE ns)) (hE : Env E w) (h1 : 1 ≤ n) (h2 : n ≤ 8) (h3 : ns.length ≤ 8) (h4 : Lies n ns) (hk : k ≤ ns.length) : Calls Tryz.prog 5 #[.int .i64 (n : Int), v, .int .i64 (k : Int)] w (Truly w) := by
  obtain ⟨A, c, hv, _⟩ := id hr
  rw [castE_length] at hv
  subst hv
  obtain ⟨i0, hi, hz0, hz1, hz2⟩ := info_parts infoL
  have Hi := Lib.hid hi
  obtain ⟨r, er, hr8, e1, e2, e3, e4, e5⟩ := kinds_fact h1 h2 h3 h4 hk
  have Hg := Lib.hid (isG_of h1 (by omega) (by omega) h4)
  have HR := Lib.hid hr
  have HE := Lib.hid hE
  have h1I : (1 : Int) ≤ (n : Int) := by omega
  have h2I : (n : Int) ≤ 8 := by omega
  have h3I : (ns.length : Int) ≤ 8 := by omega
  have h30 : (0 : Int) ≤ (ns.length : Int) := by omega
  have hkI : (k : Int) ≤ (ns.length : Int) := by omega
  have hk0 : (0 : Int) ≤ (k : Int) := by omega
  have hd1 : decide ((8 : Int) < (n : Int)) = false := decide_eq_false (by omega)
  have hd2 : decide ((8 : Int) < (ns.length : Int)) = false := decide_eq_false (by omega)
  have hd3 : decide ((k : Int) < 0) = false := decide_eq_false (by omega)
  have hd4 : decide (ns.length < k) = false := decide_eq_false (by omega)
  have hr8I : (r : Int) ≤ 8 := by omega
  have hr0I : (0 : Int) ≤ (r : Int) := by omega
  have hw2 : IntKind.i64.wrap (2 * (ns.length : Int)) = 2 * (ns.length : Int) := by rw [IntKind.wrap_i64]; omega
  have hw3 : IntKind.i64.wrap ((r : Int) + (k : Int)) = (r : Int) + (k : Int) := by rw [IntKind.wrap_i64]; omega
  have hmin : min (r : Int) (k : Int) = ((min r k : Nat) : Int) := by omega
  have hadd : ((r + k : Nat) : Int) = (r : Int) + (k : Int) := by omega
  rw [hadd] at e4
  obtain ⟨mn, hmn⟩ : ∃ mn : Int, ((min r k : Nat) : Int) = mn := ⟨_, rfl⟩
  rw [hmn] at e3 hmin
  obtain ⟨fb, hfb⟩ : ∃ fb, ((r : Int) == (ns.length : Int)) = fb := ⟨_, rfl⟩
  rw [hfb] at e5
  have hal : (allL (ns.length : Int)).length ≤ 1048576 := by have := all_len (ns.length : Int); omega
  have hal2 : (allL (2 * (ns.length : Int))).length ≤ 1048576 := by have := all_len (2 * (ns.length : Int)); omega
  have Sg : Hid (Sml (graphM n ns)) := Lib.hid (.mk (by rw [rowsE_length]; omega) (fun q hq => by obtain ⟨e, _, rfl⟩ := List.mem_map.1 hq; simp) (by simp) (by simp))
  have Su : Hid (Sml (uniM ns.length k)) := Lib.hid (sml_plain ..)
  have St : Hid (Sml (trunM ns.length k (graphM n ns))) := Lib.hid (sml_one Sg.out)
  have Ss : Hid (Sml (sumM ns.length (graphM n ns) (uniM ns.length k))) := Lib.hid (.mk (by simp) (by simp) (by simp) (by simpa using ⟨Sg.out, Su.out⟩))
  have HC1 : Hid (∀ (v sv : Value) (W : World), MatV W W.heap.size v (uniM ns.length k) → Row W W.heap.size sv (allL (ns.length : Int)) → Env E W → Calls Tryz.prog 17 #[v, sv] W (Tells W (k : Int))) := Lib.hid fun v sv W h1 h2 h3 => by rw [← e1]; exact irank_any E _ _ sv _ W h1 Su.out h2 hal h3
  have HC2 : Hid (∀ (v sv : Value) (W : World), MatV W W.heap.size v (graphM n ns) → Row W W.heap.size sv (allL (ns.length : Int)) → Env E W → Calls Tryz.prog 17 #[v, sv] W (Tells W (r : Int))) := Lib.hid fun v sv W h1 h2 h3 => by rw [← e2]; exact irank_any E _ _ sv _ W h1 Sg.out h2 hal h3
  have HC3 : Hid (∀ (v sv : Value) (W : World), MatV W W.heap.size v (trunM ns.length k (graphM n ns)) → Row W W.heap.size sv (allL (ns.length : Int)) → Env E W → Calls Tryz.prog 17 #[v, sv] W (Tells W mn)) := Lib.hid fun v sv W h1 h2 h3 => by rw [← e3]; exact irank_any E _ _ sv _ W h1 St.out h2 hal h3
  have HC4 : Hid (∀ (v sv : Value) (W : World), MatV W W.heap.size v (sumM ns.length (graphM n ns) (uniM ns.length k)) → Row W W.heap.size sv (allL (2 * (ns.length : Int))) → Env E W → Calls Tryz.prog 17 #[v, sv] W (Tells W ((r : Int) + (k : Int)))) := Lib.hid fun v sv W h1 h2 h3 => by rw [← e4]; exact irank_any E _ _ sv _ W h1 Ss.out h2 hal2 h3
  have HC5 : Hid (∀ (v sv : Value) (W : World), MatV W W.heap.size v (graphM n ns) → Row W W.heap.size sv (allL (ns.length : Int)) → Env E W → Calls Tryz.prog 11 #[v, sv] W (Says W fb)) := Lib.hid fun v sv W h1 h2 h3 => by rw [← e5]; exact indep_any E _ _ sv _ W h1 Sg.out h2 hal h3
  have HCR : Hid (∀ (v : Value) (W : World), Edges W W.heap.size v (castE ns) → Calls Tryz.prog 20 #[.int .i64 (n : Int), v] W (Counts W (r : Int))) := Lib.hid fun v W h => by rw [← er]; exact refrank_good n v ns W h h1 (by omega) (by omega) h4
  have HCF : Hid (∀ (v : Value) (W : World), Edges W W.heap.size v (castE ns) → Calls Tryz.prog 21 #[.int .i64 (n : Int), v] W (Says W fb)) := Lib.hid fun v W h => refforest_good n v ns W h h1 (by omega) (by omega) h4 fb (by rw [er]; exact hfb)
  clear er e1 e2 e3 e4 e5 hfb hmn hadd hal hal2 h4 hr hE hi h1 h2 hk hr8
  go_enter Tryz.func5, Tryz.ntmps5
  go_wp2_with fail
  refine (fixed_any E _ HE.out).mono ?_
  rintro e w1 ⟨rfl, hb1⟩
  have HB0 := Lib.hid hb1
  clear hb1
  go_wp2_with fail
  refine (refgraph_is (n : Int) _ (castE ns) _ (by have := HR.out.up HB0.out; exact this) (by rw [castE_length]; omega) Hg.out).mono ?_
  rintro e w2 ⟨rfl, hb2⟩
  replace HB0 := Lib.hid (below_next HB0.out (Nat.le_refl _) hb2)
  replace HR := Lib.hid (HR.out.up HB0.out)
  replace HE := Lib.hid (HE.out.up HB0.out)
  clear hb2
  have Hnew : Hid (Blk (w2.alloc (.cells #[.int .i64 1, .int .i64 (ns.length : Int), .int .i64 (n : Int), .int .i64 0, .slice none 0 0, .slice none 0 0] 25)) w2.heap.size 25 #[.int .i64 1, .int .i64 (ns.length : Int), .int .i64 (n : Int), .int .i64 0, .slice none 0 0, .slice none 0 0]) := Lib.hid (Blk.new w2 _ _)
  have Hb3 : Hid (Below w2.heap.size w2 (w2.alloc (.cells #[.int .i64 1, .int .i64 (ns.length : Int), .int .i64 (n : Int), .int .i64 0, .slice none 0 0, .slice none 0 0] 25))) := Lib.hid ((Below.refl _ _).alloc (Nat.le_refl _) _)
  go_wp2
  go_loopw [8] (fun vi wr => ∃ (i : Nat) (Al : Option Addr) (cl : Nat) (us : List Value), vi = .int .i64 i ∧ i ≤ ns.length ∧ Blk wr w2.heap.size 25 #[.int .i64 1, .int .i64 (ns.length : Int), .int .i64 (n : Int), .int .i64 0, .slice Al us.length cl, .slice none 0 0] ∧ wr.ownsRow (w2.heap.size + 1) 26 1 (.slice Al us.length cl) us.length us ∧ Fam wr (w2.heap.size + 1) us (rowsE (ns.take i)) ∧ Below w2.heap.size w2 wr) (fun vi _ => ns.length - (intOf vi).toNat)
  case atStart => exact ⟨0, none, 0, [], rfl, Nat.zero_le _, Hnew.out, World.ownsRow_nil _ _ _ _, fam_nil _ _, Hb3.out⟩
  case round =>
    clear Hnew Hb3
    obtain ⟨i, Al, cl, us, rfl, hi, hblk, hown, hfam, hbr⟩ := hrel
    have Hblk := Lib.hid hblk
    have Hown := Lib.hid hown
    have Hfam := Lib.hid hfam
    have Hbr := Lib.hid hbr
    have Hul : Hid (us.length = i) := Lib.hid (by have := hfam.1; rw [rowsE_length, List.length_take] at this; omega)
    have hul : us.length ≤ 8 := by rw [Hul.out]; omega
    have b4 := hblk.cell 4
    have hfz := hblk.frozen 4
    clear hblk hown hfam hbr
    by_cases hlt : i < ns.length
    · have hltI : (i : Int) < (ns.length : Int) := by omega
      obtain ⟨A', c', he, _, hcl⟩ := id HR.out
      rw [castE_length] at he hcl
      injection he with q1 q2 q3
      subst q1 q3
      obtain ⟨ad, hA, hab, g1, g2⟩ := hcl i hlt
      subst hA
      rw [castE_getD] at g1 g2
      have hx : rowsE (ns.take (i + 1)) = rowsE (ns.take i) ++ [[((ns.getD i (0, 0)).1 : Int), ((ns.getD i (0, 0)).2 : Int)]] := by
        unfold rowsE
        rw [List.take_succ_eq_append_getElem hlt, List.map_append]
        simp [List.getD, hlt]
      obtain ⟨x, ex⟩ : ∃ x : Int, ((ns.getD i (0, 0)).1 : Int) = x := ⟨_, rfl⟩
      obtain ⟨y, ey⟩ : ∃ y : Int, ((ns.getD i (0, 0)).2 : Int) = y := ⟨_, rfl⟩
      simp only at g1 g2
      rw [ex] at g1 hx
      rw [ey] at g2 hx
      have Hx := Lib.hid hx
      have f1 : wr.cell? (ad.add (i * 2)) = some (.int .i64 x) := (Hbr.out.cell (by rw [add_block]; exact hab)).trans g1
      have f2 : wr.cell? ⟨(ad.add (i * 2)).block, (ad.add (i * 2)).off + 1, none⟩ = some (.int .i64 y) := (Hbr.out.cell (by show (ad.add (i * 2)).block < _; rw [add_block]; exact hab)).trans g2
      clear g1 g2 hx ex ey hcl q2 HC1 HC2 HC3 HC4 HC5 HCR HCF
      have Hi0 := Lib.hid (Hown.out.alloc (.cells #[.int .i64 x, .int .i64 y] 3))
      have Hown2 := Lib.hid ((Hi0.out.alloc (.cells #[.slice (some ⟨wr.heap.size, 0, none⟩) 2 2] 26)).drew)
      have hi := Hi.out
      have c4a := (Hblk.out.alloc (.cells #[.int .i64 x, .int .i64 y] 3)).cell 4
      have c4b := ((Hblk.out.alloc (.cells #[.int .i64 x, .int .i64 y] 3)).alloc (.cells #[.slice (some ⟨wr.heap.size, 0, none⟩) 2 2] 26)).cell 4
      go_wp2
      go_region_law (refine step_append_lies _ rfl _ _ 22 rfl (w2.heap.size + 1) 26 i0 (.slice none 0 0) 1 24 (by kernel_rfl) hi hz0 hz1 hz2 rfl (by decide) (.slice Al us.length cl) us.length us rfl Hown2.out _ 1 1 [.slice (some ⟨wr.heap.size, 0, none⟩) 2 2] rfl rfl (lit_cell_at (wr.alloc (.cells #[.int .i64 x, .int .i64 y] 3)) _ (by simp) _ _) (by intro u hu; simp at hu; subst hu; rfl) (by decide) (by unfold maxLen; omega) (by omega) (by have := Hbr.out.size; simp; omega) _ rfl ?_; intro g cap w4 hown' hgrow hat hlt4; have hb5 := ((((Hblk.out.alloc (.cells #[.int .i64 x, .int .i64 y] 3)).alloc (.cells #[.slice (some ⟨wr.heap.size, 0, none⟩) 2 2] 26)).drew).grown hgrow (by intro e; have := (Hown2.out.lt _ e.symm).1; omega)); have c5 := hb5.cell 4; have z5 := hb5.frozen 4)
      all_goals
        have Hb5 := Lib.hid (hb5.set_ 4 (.slice (some ⟨g, 0, none⟩) (us.length + 1) cap))
        have Hgr5 := Lib.hid (grown_set_cell w4 w2.heap.size 4 (.slice (some ⟨g, 0, none⟩) (us.length + 1) cap))
        have Hown5 : Hid ((w4.setCell ⟨w2.heap.size, 4, none⟩ (.slice (some ⟨g, 0, none⟩) (us.length + 1) cap)).ownsRow (w2.heap.size + 1) 26 1 (.slice (some ⟨g, 0, none⟩) (us ++ [Value.slice (some ⟨wr.heap.size, 0, none⟩) 2 2]).length cap) (us ++ [Value.slice (some ⟨wr.heap.size, 0, none⟩) 2 2]).length (us ++ [Value.slice (some ⟨wr.heap.size, 0, none⟩) 2 2])) := Lib.hid (by
          rw [List.length_append]
          exact hown'.kept Hgr5.out (by
            right
            intro e
            have := (hown'.lt _ e).1
            omega))
        have Hfam5 : Hid (Fam (w4.setCell ⟨w2.heap.size, 4, none⟩ (.slice (some ⟨g, 0, none⟩) (us.length + 1) cap)) (w2.heap.size + 1) (us ++ [Value.slice (some ⟨wr.heap.size, 0, none⟩) 2 2]) (rowsE (ns.take (i + 1)))) := Lib.hid (by
          rw [Hx.out]
          have ho : (wr.alloc (.cells #[.int .i64 x, .int .i64 y] 3)).ownsRow (w2.heap.size + 1) 3 1 (.slice (some ⟨wr.heap.size, 0, none⟩) 2 2) 2 [.int .i64 x, .int .i64 y] := World.ownsRow_lit wr #[.int .i64 x, .int .i64 y] 2 Hblk.out.lt (by unfold maxLen; omega) rfl
          have p1 := (Hfam.out.bel ((Below.refl wr.heap.size wr).alloc (Nat.le_refl _) (.cells #[.int .i64 x, .int .i64 y] 3))).push (u := .slice (some ⟨wr.heap.size, 0, none⟩) 2 2) (q := [x, y]) ho (fun v hv => by
            right
            intro e
            have h9 : wr.heap.size < wr.heap.size := Hfam.out.lt hv e
            exact Nat.lt_irrefl _ h9)
          have p2 := ((p1.bel ((Below.refl _ (wr.alloc (.cells #[.int .i64 x, .int .i64 y] 3))).alloc (Nat.le_refl _) (.cells #[.slice (some ⟨wr.heap.size, 0, none⟩) 2 2] 26))).new (only_drew (World.grownBy.refl _ none))).outer Hown2.out hgrow
          exact p2.apart Hgr5.out (by omega))
        have Hbr5 : Hid (Below w2.heap.size w2 (w4.setCell ⟨w2.heap.size, 4, none⟩ (.slice (some ⟨g, 0, none⟩) (us.length + 1) cap))) := Lib.hid (by
          have q1 := (((Hbr.out.alloc Hbr.out.size (.cells #[.int .i64 x, .int .i64 y] 3)).alloc (by have := Hbr.out.size; simp; omega) (.cells #[.slice (some ⟨wr.heap.size, 0, none⟩) 2 2] 26)).drew).grown hgrow (by have := Hbr.out.size; simp; omega) (fun j hj => by have := (Hown2.out.lt j hj).1; omega)
          exact q1.setCell (p := ⟨w2.heap.size, 4, none⟩) (Nat.le_refl _) _)
        clear c4a c4b hown' hgrow hat hlt4 hb5 c5 z5 Hgr5 f1 f2 b4 hfz hi
        go_wp2
        go_roundw
        case rel => exact ⟨i + 1, some ⟨g, 0, none⟩, cap, us ++ [Value.slice (some ⟨wr.heap.size, 0, none⟩) 2 2], by go_num, by omega, by simpa using Hb5.out, Hown5.out, Hfam5.out, Hbr5.out⟩
        case measure => simp [intOf]; omega
    · have hie : i = ns.length := by omega
      subst hie
      rw [List.take_length] at Hfam
      obtain ⟨HRow⟩ : Nonempty (Hid (Rows2 wr wr.heap.size (.slice Al us.length cl) (rowsE ns))) := ⟨Lib.hid (Hfam.out.rows Hown.out)⟩
      have hGl : w2.heap.size < wr.heap.size := Hblk.out.lt
      replace HR := Lib.hid (HR.out.up Hbr.out)
      replace HE := Lib.hid (HE.out.up Hbr.out)
      replace HB0 := Lib.hid (below_next HB0.out (Nat.le_refl _) Hbr.out)
      have hlenI : (ns.length : Int) = (ns.length : Int) := rfl
      clear hul Hul b4 hfz Hfam Hown Hbr hlt hi hlenI
      go_wp2_with fail
      refine (refall_any (ns.length : Int) _).mono ?_
      rintro e w3 ⟨v9, rfl, hr9, hb3⟩
      replace HRow := Lib.hid (HRow.out.up hb3)
      replace Hblk := Lib.hid (Hblk.out.below hb3 Hblk.out.lt)
      replace HR := Lib.hid (HR.out.up hb3)
      replace HE := Lib.hid (HE.out.up hb3)
      replace HB0 := Lib.hid (below_next HB0.out (Nat.le_refl _) hb3)
      have HAl := Lib.hid hr9
      have hGl : w2.heap.size < w3.heap.size := Hblk.out.lt
      clear hr9 hb3
      generalize w2.heap.size = G at *
      have k0 := Hblk.out.cell 0
      have k1 := Hblk.out.cell 1
      have k2 := Hblk.out.cell 2
      have k3 := Hblk.out.cell 3
      have k4 := Hblk.out.cell 4
      have k5 := Hblk.out.cell 5
      have hg1 : G < w3.heap.size + 1 := by omega
      have hh1 : G ≤ w3.heap.size + 1 := by omega
      have hn1 : ¬ G = w3.heap.size + 1 := by omega
      have hg2 : G < w3.heap.size + 1 + 1 := by omega
      have hh2 : G ≤ w3.heap.size + 1 + 1 := by omega
      have hn2 : ¬ G = w3.heap.size + 1 + 1 := by omega
      have hg3 : G < w3.heap.size + 1 + 1 + 1 := by omega
      have hh3 : G ≤ w3.heap.size + 1 + 1 + 1 := by omega
      have hn3 : ¬ G = w3.heap.size + 1 + 1 + 1 := by omega
      have hg4 : G < w3.heap.size + 1 + 1 + 1 + 1 := by omega
      have hh4 : G ≤ w3.heap.size + 1 + 1 + 1 + 1 := by omega
      have hn4 : ¬ G = w3.heap.size + 1 + 1 + 1 + 1 := by omega
      have hg5 : G < w3.heap.size + 1 + 1 + 1 + 1 + 1 := by omega
      have hh5 : G ≤ w3.heap.size + 1 + 1 + 1 + 1 + 1 := by omega
      have hn5 : ¬ G = w3.heap.size + 1 + 1 + 1 + 1 + 1 := by omega
      obtain ⟨X, hX⟩ : ∃ X, X = (((((w3.alloc (.cells #[.int .i64 0, .int .i64 (ns.length : Int), .int .i64 (k : Int), .int .i64 0, .slice none 0 0, .slice none 0 0] 25)).alloc (.cells #[.int .i64 1, .int .i64 (ns.length : Int), .int .i64 (n : Int), .int .i64 0, .slice Al us.length cl, .slice none 0 0] 25)).alloc (.cells #[.int .i64 7, .int .i64 (ns.length : Int), .int .i64 (k : Int), .int .i64 0, .slice none 0 0, .slice (some ⟨w3.heap.size + 1, 0, none⟩) 1 1] 25)).alloc (.cells #[.int .i64 1, .int .i64 (ns.length : Int), .int .i64 (n : Int), .int .i64 0, .slice Al us.length cl, .slice none 0 0, .int .i64 0, .int .i64 (ns.length : Int), .int .i64 (k : Int), .int .i64 0, .slice none 0 0, .slice none 0 0] 25)).alloc (.cells #[.int .i64 9, .int .i64 (2 * (ns.length : Int)), .int .i64 0, .int .i64 0, .slice none 0 0, .slice (some ⟨w3.heap.size + 1 + 1 + 1, 0, none⟩) 2 2] 25)) := ⟨_, rfl⟩
      have HX := Lib.hid hX
      have Hsz : Hid (X.heap.size = w3.heap.size + 1 + 1 + 1 + 1 + 1) := Lib.hid (by rw [hX]; simp only [size_more])
      have Hbx : Hid (Below w3.heap.size w3 X) := Lib.hid (by
        rw [hX]
        exact (((((Below.refl w3.heap.size w3).alloc (Nat.le_refl _) _).alloc (by simp only [size_more]; omega) _).alloc (by simp only [size_more]; omega) _).alloc (by simp only [size_more]; omega) _).alloc (by simp only [size_more]; omega) _)
      have HMg0 : Hid (∀ W, Below w3.heap.size w3 W → MatV W w3.heap.size (.agg #[.int .i64 1, .int .i64 (ns.length : Int), .int .i64 (n : Int), .int .i64 0, .slice Al us.length cl, .slice none 0 0]) (graphM n ns)) := Lib.hid fun W hW => MatV.shut (HRow.out.below hW) (MatL.nil_ _ _)
      have HMu0 : Hid (∀ W B, MatV W B (.agg #[.int .i64 0, .int .i64 (ns.length : Int), .int .i64 (k : Int), .int .i64 0, .slice none 0 0, .slice none 0 0]) (uniM ns.length k)) := Lib.hid fun W B => plain_mat W B 0 (ns.length : Int) (k : Int) 0
      have HMg : Hid (MatV X X.heap.size (.agg #[.int .i64 1, .int .i64 (ns.length : Int), .int .i64 (n : Int), .int .i64 0, .slice Al us.length cl, .slice none 0 0]) (graphM n ns)) := Lib.hid ((HMg0.out X Hbx.out).mono Hbx.out.size)
      have HMu : Hid (MatV X X.heap.size (.agg #[.int .i64 0, .int .i64 (ns.length : Int), .int .i64 (k : Int), .int .i64 0, .slice none 0 0, .slice none 0 0]) (uniM ns.length k)) := Lib.hid (HMu0.out _ _)
      have HMt : Hid (MatV X X.heap.size (.agg #[.int .i64 7, .int .i64 (ns.length : Int), .int .i64 (k : Int), .int .i64 0, .slice none 0 0, .slice (some ⟨w3.heap.size + 1, 0, none⟩) 1 1]) (trunM ns.length k (graphM n ns))) := Lib.hid (by
        have h0 : MatV (w3.alloc (.cells #[.int .i64 0, .int .i64 (ns.length : Int), .int .i64 (k : Int), .int .i64 0, .slice none 0 0, .slice none 0 0] 25)) (w3.alloc (.cells #[.int .i64 0, .int .i64 (ns.length : Int), .int .i64 (k : Int), .int .i64 0, .slice none 0 0, .slice none 0 0] 25)).heap.size (.agg #[.int .i64 1, .int .i64 (ns.length : Int), .int .i64 (n : Int), .int .i64 0, .slice Al us.length cl, .slice none 0 0]) (graphM n ns) := (HMg0.out _ ((Below.refl _ w3).alloc (Nat.le_refl _) _)).mono (by rw [size_more]; omega)
        have h1 := lit_mats h0
        simp only [size_more] at h1
        have h2 : MatV ((w3.alloc (.cells #[.int .i64 0, .int .i64 (ns.length : Int), .int .i64 (k : Int), .int .i64 0, .slice none 0 0, .slice none 0 0] 25)).alloc (.cells #[.int .i64 1, .int .i64 (ns.length : Int), .int .i64 (n : Int), .int .i64 0, .slice Al us.length cl, .slice none 0 0] 25)) (w3.heap.size + 1 + 1) (.agg #[.int .i64 7, .int .i64 (ns.length : Int), .int .i64 (k : Int), .int .i64 0, .slice none 0 0, .slice (some ⟨w3.heap.size + 1, 0, none⟩) 1 1]) (trunM ns.length k (graphM n ns)) := MatV.shut (rows2_nil _ _) h1
        rw [Hsz.out, hX]
        exact (h2.bel (((((Below.refl (w3.heap.size + 1 + 1) ((w3.alloc (.cells #[.int .i64 0, .int .i64 (ns.length : Int), .int .i64 (k : Int), .int .i64 0, .slice none 0 0, .slice none 0 0] 25)).alloc (.cells #[.int .i64 1, .int .i64 (ns.length : Int), .int .i64 (n : Int), .int .i64 0, .slice Al us.length cl, .slice none 0 0] 25))).alloc (by simp only [size_more]; omega) _).alloc (by simp only [size_more]; omega) _).alloc (by simp only [size_more]; omega) _))).mono (by omega))
      have HMs : Hid (MatV X X.heap.size (.agg #[.int .i64 9, .int .i64 (2 * (ns.length : Int)), .int .i64 0, .int .i64 0, .slice none 0 0, .slice (some ⟨w3.heap.size + 1 + 1 + 1, 0, none⟩) 2 2]) (sumM ns.length (graphM n ns) (uniM ns.length k))) := Lib.hid (by
        have h0 : MatV (((w3.alloc (.cells #[.int .i64 0, .int .i64 (ns.length : Int), .int .i64 (k : Int), .int .i64 0, .slice none 0 0, .slice none 0 0] 25)).alloc (.cells #[.int .i64 1, .int .i64 (ns.length : Int), .int .i64 (n : Int), .int .i64 0, .slice Al us.length cl, .slice none 0 0] 25)).alloc (.cells #[.int .i64 7, .int .i64 (ns.length : Int), .int .i64 (k : Int), .int .i64 0, .slice none 0 0, .slice (some ⟨w3.heap.size + 1, 0, none⟩) 1 1] 25)) (((w3.alloc (.cells #[.int .i64 0, .int .i64 (ns.length : Int), .int .i64 (k : Int), .int .i64 0, .slice none 0 0, .slice none 0 0] 25)).alloc (.cells #[.int .i64 1, .int .i64 (ns.length : Int), .int .i64 (n : Int), .int .i64 0, .slice Al us.length cl, .slice none 0 0] 25)).alloc (.cells #[.int .i64 7, .int .i64 (ns.length : Int), .int .i64 (k : Int), .int .i64 0, .slice none 0 0, .slice (some ⟨w3.heap.size + 1, 0, none⟩) 1 1] 25)).heap.size (.agg #[.int .i64 1, .int .i64 (ns.length : Int), .int .i64 (n : Int), .int .i64 0, .slice Al us.length cl, .slice none 0 0]) (graphM n ns) := (HMg0.out _ ((((Below.refl _ w3).alloc (Nat.le_refl _) _).alloc (by simp only [size_more]; omega) _).alloc (by simp only [size_more]; omega) _)).mono (by simp only [size_more]; omega)
        have h1 := lit_mats_two h0 (HMu0.out (((w3.alloc (.cells #[.int .i64 0, .int .i64 (ns.length : Int), .int .i64 (k : Int), .int .i64 0, .slice none 0 0, .slice none 0 0] 25)).alloc (.cells #[.int .i64 1, .int .i64 (ns.length : Int), .int .i64 (n : Int), .int .i64 0, .slice Al us.length cl, .slice none 0 0] 25)).alloc (.cells #[.int .i64 7, .int .i64 (ns.length : Int), .int .i64 (k : Int), .int .i64 0, .slice none 0 0, .slice (some ⟨w3.heap.size + 1, 0, none⟩) 1 1] 25)) (((w3.alloc (.cells #[.int .i64 0, .int .i64 (ns.length : Int), .int .i64 (k : Int), .int .i64 0, .slice none 0 0, .slice none 0 0] 25)).alloc (.cells #[.int .i64 1, .int .i64 (ns.length : Int), .int .i64 (n : Int), .int .i64 0, .slice Al us.length cl, .slice none 0 0] 25)).alloc (.cells #[.int .i64 7, .int .i64 (ns.length : Int), .int .i64 (k : Int), .int .i64 0, .slice none 0 0, .slice (some ⟨w3.heap.size + 1, 0, none⟩) 1 1] 25)).heap.size)
        simp only [size_more] at h1
        have h2 : MatV ((((w3.alloc (.cells #[.int .i64 0, .int .i64 (ns.length : Int), .int .i64 (k : Int), .int .i64 0, .slice none 0 0, .slice none 0 0] 25)).alloc (.cells #[.int .i64 1, .int .i64 (ns.length : Int), .int .i64 (n : Int), .int .i64 0, .slice Al us.length cl, .slice none 0 0] 25)).alloc (.cells #[.int .i64 7, .int .i64 (ns.length : Int), .int .i64 (k : Int), .int .i64 0, .slice none 0 0, .slice (some ⟨w3.heap.size + 1, 0, none⟩) 1 1] 25)).alloc (.cells #[.int .i64 1, .int .i64 (ns.length : Int), .int .i64 (n : Int), .int .i64 0, .slice Al us.length cl, .slice none 0 0, .int .i64 0, .int .i64 (ns.length : Int), .int .i64 (k : Int), .int .i64 0, .slice none 0 0, .slice none 0 0] 25)) (w3.heap.size + 1 + 1 + 1 + 1) (.agg #[.int .i64 9, .int .i64 (2 * (ns.length : Int)), .int .i64 0, .int .i64 0, .slice none 0 0, .slice (some ⟨w3.heap.size + 1 + 1 + 1, 0, none⟩) 2 2]) (sumM ns.length (graphM n ns) (uniM ns.length k)) := MatV.shut (rows2_nil _ _) h1
        rw [Hsz.out, hX]
        exact (h2.bel (((Below.refl (w3.heap.size + 1 + 1 + 1 + 1) ((((w3.alloc (.cells #[.int .i64 0, .int .i64 (ns.length : Int), .int .i64 (k : Int), .int .i64 0, .slice none 0 0, .slice none 0 0] 25)).alloc (.cells #[.int .i64 1, .int .i64 (ns.length : Int), .int .i64 (n : Int), .int .i64 0, .slice Al us.length cl, .slice none 0 0] 25)).alloc (.cells #[.int .i64 7, .int .i64 (ns.length : Int), .int .i64 (k : Int), .int .i64 0, .slice none 0 0, .slice (some ⟨w3.heap.size + 1, 0, none⟩) 1 1] 25)).alloc (.cells #[.int .i64 1, .int .i64 (ns.length : Int), .int .i64 (n : Int), .int .i64 0, .slice Al us.length cl, .slice none 0 0, .int .i64 0, .int .i64 (ns.length : Int), .int .i64 (k : Int), .int .i64 0, .slice none 0 0, .slice none 0 0] 25))).alloc (by simp only [size_more]; omega) _))).mono (by omega))
      have HKu : Hid (Blk X w3.heap.size 25 #[.int .i64 0, .int .i64 (ns.length : Int), .int .i64 (k : Int), .int .i64 0, .slice none 0 0, .slice none 0 0]) := Lib.hid (by
        have h := ((((Blk.new w3 25 #[.int .i64 0, .int .i64 (ns.length : Int), .int .i64 (k : Int), .int .i64 0, .slice none 0 0, .slice none 0 0]).alloc (.cells #[.int .i64 1, .int .i64 (ns.length : Int), .int .i64 (n : Int), .int .i64 0, .slice Al us.length cl, .slice none 0 0] 25)).alloc (.cells #[.int .i64 7, .int .i64 (ns.length : Int), .int .i64 (k : Int), .int .i64 0, .slice none 0 0, .slice (some ⟨w3.heap.size + 1, 0, none⟩) 1 1] 25)).alloc (.cells #[.int .i64 1, .int .i64 (ns.length : Int), .int .i64 (n : Int), .int .i64 0, .slice Al us.length cl, .slice none 0 0, .int .i64 0, .int .i64 (ns.length : Int), .int .i64 (k : Int), .int .i64 0, .slice none 0 0, .slice none 0 0] 25)).alloc (.cells #[.int .i64 9, .int .i64 (2 * (ns.length : Int)), .int .i64 0, .int .i64 0, .slice none 0 0, .slice (some ⟨w3.heap.size + 1 + 1 + 1, 0, none⟩) 2 2] 25)
        rw [hX]
        exact h)
      have HKt : Hid (Blk X (w3.heap.size + 1 + 1) 25 #[.int .i64 7, .int .i64 (ns.length : Int), .int .i64 (k : Int), .int .i64 0, .slice none 0 0, .slice (some ⟨w3.heap.size + 1, 0, none⟩) 1 1]) := Lib.hid (by
        have h := ((Blk.new ((w3.alloc (.cells #[.int .i64 0, .int .i64 (ns.length : Int), .int .i64 (k : Int), .int .i64 0, .slice none 0 0, .slice none 0 0] 25)).alloc (.cells #[.int .i64 1, .int .i64 (ns.length : Int), .int .i64 (n : Int), .int .i64 0, .slice Al us.length cl, .slice none 0 0] 25)) 25 #[.int .i64 7, .int .i64 (ns.length : Int), .int .i64 (k : Int), .int .i64 0, .slice none 0 0, .slice (some ⟨w3.heap.size + 1, 0, none⟩) 1 1]).alloc (.cells #[.int .i64 1, .int .i64 (ns.length : Int), .int .i64 (n : Int), .int .i64 0, .slice Al us.length cl, .slice none 0 0, .int .i64 0, .int .i64 (ns.length : Int), .int .i64 (k : Int), .int .i64 0, .slice none 0 0, .slice none 0 0] 25)).alloc (.cells #[.int .i64 9, .int .i64 (2 * (ns.length : Int)), .int .i64 0, .int .i64 0, .slice none 0 0, .slice (some ⟨w3.heap.size + 1 + 1 + 1, 0, none⟩) 2 2] 25)
        simp only [size_more] at h
        rw [hX]
        exact h)
      have HKs : Hid (Blk X (w3.heap.size + 1 + 1 + 1 + 1) 25 #[.int .i64 9, .int .i64 (2 * (ns.length : Int)), .int .i64 0, .int .i64 0, .slice none 0 0, .slice (some ⟨w3.heap.size + 1 + 1 + 1, 0, none⟩) 2 2]) := Lib.hid (by
        have h := Blk.new ((((w3.alloc (.cells #[.int .i64 0, .int .i64 (ns.length : Int), .int .i64 (k : Int), .int .i64 0, .slice none 0 0, .slice none 0 0] 25)).alloc (.cells #[.int .i64 1, .int .i64 (ns.length : Int), .int .i64 (n : Int), .int .i64 0, .slice Al us.length cl, .slice none 0 0] 25)).alloc (.cells #[.int .i64 7, .int .i64 (ns.length : Int), .int .i64 (k : Int), .int .i64 0, .slice none 0 0, .slice (some ⟨w3.heap.size + 1, 0, none⟩) 1 1] 25)).alloc (.cells #[.int .i64 1, .int .i64 (ns.length : Int), .int .i64 (n : Int), .int .i64 0, .slice Al us.length cl, .slice none 0 0, .int .i64 0, .int .i64 (ns.length : Int), .int .i64 (k : Int), .int .i64 0, .slice none 0 0, .slice none 0 0] 25)) 25 #[.int .i64 9, .int .i64 (2 * (ns.length : Int)), .int .i64 0, .int .i64 0, .slice none 0 0, .slice (some ⟨w3.heap.size + 1 + 1 + 1, 0, none⟩) 2 2]
        simp only [size_more] at h
        rw [hX]
        exact h)
      have HKg := Lib.hid (Hblk.out.below Hbx.out Hblk.out.lt)
      have HRR := Lib.hid (HR.out.up Hbx.out)
      have HEE := Lib.hid (HE.out.up Hbx.out)
      have HALL := Lib.hid (HAl.out.up Hbx.out)
      replace HB0 := Lib.hid (below_next HB0.out (Nat.le_refl _) Hbx.out)
      clear hX HMg0 HMu0 HRow Hblk HR HE HAl
      go_wp2_with fail
      rw [← HX.out]
      refine (HCR.out _ _ HRR.out).mono ?_
      rintro e w4 ⟨rfl, hb4⟩
      have HB4 := Lib.hid hb4
      replace HB0 := Lib.hid (below_next HB0.out (Nat.le_refl _) hb4)
      have hbd := (Below.refl w4.heap.size w4).drew
      have HMG := Lib.hid ((HMg.out.up hb4).up hbd)
      have HMU := Lib.hid ((HMu.out.up hb4).up hbd)
      have HMT := Lib.hid ((HMt.out.up hb4).up hbd)
      have HMS := Lib.hid ((HMs.out.up hb4).up hbd)
      have HQE := Lib.hid ((HEE.out.up hb4).up hbd)
      have HQA := Lib.hid ((HALL.out.up hb4).up hbd)
      have HQR := Lib.hid ((HRR.out.up hb4).up hbd)
      have K1 : Hid (∀ W, Below w4.drew.heap.size w4.drew W → W.cell? ⟨G, 0, none⟩ = some (.int .i64 1) ∧ W.cell? ⟨G, 1, none⟩ = some (.int .i64 (ns.length : Int)) ∧ W.cell? ⟨G, 2, none⟩ = some (.int .i64 (n : Int)) ∧ W.cell? ⟨G, 3, none⟩ = some (.int .i64 0) ∧ W.cell? ⟨G, 4, none⟩ = some (.slice Al us.length cl) ∧ W.cell? ⟨G, 5, none⟩ = some (.slice none 0 0) ∧ W.cell? ⟨w3.heap.size, 0, none⟩ = some (.int .i64 0) ∧ W.cell? ⟨w3.heap.size, 1, none⟩ = some (.int .i64 (ns.length : Int)) ∧ W.cell? ⟨w3.heap.size, 2, none⟩ = some (.int .i64 (k : Int)) ∧ W.cell? ⟨w3.heap.size, 3, none⟩ = some (.int .i64 0) ∧ W.cell? ⟨w3.heap.size, 4, none⟩ = some (.slice none 0 0) ∧ W.cell? ⟨w3.heap.size, 5, none⟩ = some (.slice none 0 0) ∧ W.cell? ⟨w3.heap.size + 1 + 1, 0, none⟩ = some (.int .i64 7) ∧ W.cell? ⟨w3.heap.size + 1 + 1, 1, none⟩ = some (.int .i64 (ns.length : Int)) ∧ W.cell? ⟨w3.heap.size + 1 + 1, 2, none⟩ = some (.int .i64 (k : Int)) ∧ W.cell? ⟨w3.heap.size + 1 + 1, 3, none⟩ = some (.int .i64 0) ∧ W.cell? ⟨w3.heap.size + 1 + 1, 4, none⟩ = some (.slice none 0 0) ∧ W.cell? ⟨w3.heap.size + 1 + 1, 5, none⟩ = some (.slice (some ⟨w3.heap.size + 1, 0, none⟩) 1 1) ∧ W.cell? ⟨w3.heap.size + 1 + 1 + 1 + 1, 0, none⟩ = some (.int .i64 9) ∧ W.cell? ⟨w3.heap.size + 1 + 1 + 1 + 1, 1, none⟩ = some (.int .i64 (2 * (ns.length : Int))) ∧ W.cell? ⟨w3.heap.size + 1 + 1 + 1 + 1, 2, none⟩ = some (.int .i64 0) ∧ W.cell? ⟨w3.heap.size + 1 + 1 + 1 + 1, 3, none⟩ = some (.int .i64 0) ∧ W.cell? ⟨w3.heap.size + 1 + 1 + 1 + 1, 4, none⟩ = some (.slice none 0 0) ∧ W.cell? ⟨w3.heap.size + 1 + 1 + 1 + 1, 5, none⟩ = some (.slice (some ⟨w3.heap.size + 1 + 1 + 1, 0, none⟩) 2 2)) := Lib.hid fun W hW => ⟨(((HKg.out.below HB4.out HKg.out.lt).drew).below hW (HKg.out.below HB4.out HKg.out.lt).lt).cell 0, (((HKg.out.below HB4.out HKg.out.lt).drew).below hW (HKg.out.below HB4.out HKg.out.lt).lt).cell 1, (((HKg.out.below HB4.out HKg.out.lt).drew).below hW (HKg.out.below HB4.out HKg.out.lt).lt).cell 2, (((HKg.out.below HB4.out HKg.out.lt).drew).below hW (HKg.out.below HB4.out HKg.out.lt).lt).cell 3, (((HKg.out.below HB4.out HKg.out.lt).drew).below hW (HKg.out.below HB4.out HKg.out.lt).lt).cell 4, (((HKg.out.below HB4.out HKg.out.lt).drew).below hW (HKg.out.below HB4.out HKg.out.lt).lt).cell 5, (((HKu.out.below HB4.out HKu.out.lt).drew).below hW (HKu.out.below HB4.out HKu.out.lt).lt).cell 0, (((HKu.out.below HB4.out HKu.out.lt).drew).below hW (HKu.out.below HB4.out HKu.out.lt).lt).cell 1, (((HKu.out.below HB4.out HKu.out.lt).drew).below hW (HKu.out.below HB4.out HKu.out.lt).lt).cell 2, (((HKu.out.below HB4.out HKu.out.lt).drew).below hW (HKu.out.below HB4.out HKu.out.lt).lt).cell 3, (((HKu.out.below HB4.out HKu.out.lt).drew).below hW (HKu.out.below HB4.out HKu.out.lt).lt).cell 4, (((HKu.out.below HB4.out HKu.out.lt).drew).below hW (HKu.out.below HB4.out HKu.out.lt).lt).cell 5, (((HKt.out.below HB4.out HKt.out.lt).drew).below hW (HKt.out.below HB4.out HKt.out.lt).lt).cell 0, (((HKt.out.below HB4.out HKt.out.lt).drew).below hW (HKt.out.below HB4.out HKt.out.lt).lt).cell 1, (((HKt.out.below HB4.out HKt.out.lt).drew).below hW (HKt.out.below HB4.out HKt.out.lt).lt).cell 2, (((HKt.out.below HB4.out HKt.out.lt).drew).below hW (HKt.out.below HB4.out HKt.out.lt).lt).cell 3, (((HKt.out.below HB4.out HKt.out.lt).drew).below hW (HKt.out.below HB4.out HKt.out.lt).lt).cell 4, (((HKt.out.below HB4.out HKt.out.lt).drew).below hW (HKt.out.below HB4.out HKt.out.lt).lt).cell 5, (((HKs.out.below HB4.out HKs.out.lt).drew).below hW (HKs.out.below HB4.out HKs.out.lt).lt).cell 0, (((HKs.out.below HB4.out HKs.out.lt).drew).below hW (HKs.out.below HB4.out HKs.out.lt).lt).cell 1, (((HKs.out.below HB4.out HKs.out.lt).drew).below hW (HKs.out.below HB4.out HKs.out.lt).lt).cell 2, (((HKs.out.below HB4.out HKs.out.lt).drew).below hW (HKs.out.below HB4.out HKs.out.lt).lt).cell 3, (((HKs.out.below HB4.out HKs.out.lt).drew).below hW (HKs.out.below HB4.out HKs.out.lt).lt).cell 4, (((HKs.out.below HB4.out HKs.out.lt).drew).below hW (HKs.out.below HB4.out HKs.out.lt).lt).cell 5⟩
      have HB : Hid (Below w4.drew.heap.size w4.drew w4.drew) := Lib.hid (Below.refl _ _)
      clear hb4 hbd HMg HMu HMt HMs HKu HKt HKs HKg HRR HEE HALL HB4 Hbx HX Hsz k0 k1 k2 k3 k4 k5 hg1 hh1 hn1 hg2 hh2 hn2 hg3 hh3 hn3 hg4 hh4 hn4 hg5 hh5 hn5
      go_wp2
      go_region_held3 (fun W => W.cell? ⟨G, 0, none⟩ = some (.int .i64 1) ∧ W.cell? ⟨G, 1, none⟩ = some (.int .i64 (ns.length : Int)) ∧ W.cell? ⟨G, 2, none⟩ = some (.int .i64 (n : Int)) ∧ W.cell? ⟨G, 3, none⟩ = some (.int .i64 0) ∧ W.cell? ⟨G, 4, none⟩ = some (.slice Al us.length cl) ∧ W.cell? ⟨G, 5, none⟩ = some (.slice none 0 0) ∧ W.cell? ⟨w3.heap.size, 0, none⟩ = some (.int .i64 0) ∧ W.cell? ⟨w3.heap.size, 1, none⟩ = some (.int .i64 (ns.length : Int)) ∧ W.cell? ⟨w3.heap.size, 2, none⟩ = some (.int .i64 (k : Int)) ∧ W.cell? ⟨w3.heap.size, 3, none⟩ = some (.int .i64 0) ∧ W.cell? ⟨w3.heap.size, 4, none⟩ = some (.slice none 0 0) ∧ W.cell? ⟨w3.heap.size, 5, none⟩ = some (.slice none 0 0) ∧ W.cell? ⟨w3.heap.size + 1 + 1, 0, none⟩ = some (.int .i64 7) ∧ W.cell? ⟨w3.heap.size + 1 + 1, 1, none⟩ = some (.int .i64 (ns.length : Int)) ∧ W.cell? ⟨w3.heap.size + 1 + 1, 2, none⟩ = some (.int .i64 (k : Int)) ∧ W.cell? ⟨w3.heap.size + 1 + 1, 3, none⟩ = some (.int .i64 0) ∧ W.cell? ⟨w3.heap.size + 1 + 1, 4, none⟩ = some (.slice none 0 0) ∧ W.cell? ⟨w3.heap.size + 1 + 1, 5, none⟩ = some (.slice (some ⟨w3.heap.size + 1, 0, none⟩) 1 1) ∧ W.cell? ⟨w3.heap.size + 1 + 1 + 1 + 1, 0, none⟩ = some (.int .i64 9) ∧ W.cell? ⟨w3.heap.size + 1 + 1 + 1 + 1, 1, none⟩ = some (.int .i64 (2 * (ns.length : Int))) ∧ W.cell? ⟨w3.heap.size + 1 + 1 + 1 + 1, 2, none⟩ = some (.int .i64 0) ∧ W.cell? ⟨w3.heap.size + 1 + 1 + 1 + 1, 3, none⟩ = some (.int .i64 0) ∧ W.cell? ⟨w3.heap.size + 1 + 1 + 1 + 1, 4, none⟩ = some (.slice none 0 0) ∧ W.cell? ⟨w3.heap.size + 1 + 1 + 1 + 1, 5, none⟩ = some (.slice (some ⟨w3.heap.size + 1 + 1 + 1, 0, none⟩) 2 2))
        (exact K1.out _ HB.out)
        (first
        | (go_at_call_of 17 (Value.agg #[.int .i64 0, .int .i64 (ns.length : Int), .int .i64 (k : Int), .int .i64 0, .slice none 0 0, .slice none 0 0]); refine (HC1.out _ _ _ (HMU.out.up HB.out) (HQA.out.up HB.out) (HQE.out.up HB.out)).mono ?_; rintro e w11 ⟨rfl, hb⟩; replace HB := Lib.hid (below_next HB.out (Nat.le_refl _) hb); clear hb)
        | (go_at_call_of 17 (Value.agg #[.int .i64 1, .int .i64 (ns.length : Int), .int .i64 (n : Int), .int .i64 0, .slice Al us.length cl, .slice none 0 0]); refine (HC2.out _ _ _ (HMG.out.up HB.out) (HQA.out.up HB.out) (HQE.out.up HB.out)).mono ?_; rintro e w12 ⟨rfl, hb⟩; replace HB := Lib.hid (below_next HB.out (Nat.le_refl _) hb); clear hb)
        | (go_at_call 17; refine (HC4.out _ _ _ (HMS.out.up HB.out) HU.out (HQE.out.up HB.out)).mono ?_; rintro e w15 ⟨rfl, hb⟩; replace HB := Lib.hid (below_next HB.out (Nat.le_refl _) hb); clear hb)
        | (go_at_call 17; refine (HC3.out _ _ _ (HMT.out.up HB.out) (HQA.out.up HB.out) (HQE.out.up HB.out)).mono ?_; rintro e w13 ⟨rfl, hb⟩; replace HB := Lib.hid (below_next HB.out (Nat.le_refl _) hb); clear hb)
        | ((try go_simp); go_at_call 16; refine (refall_any (2 * (ns.length : Int)) _).mono ?_; rintro e w14 ⟨v14, rfl, hr14, hb⟩; replace HB := Lib.hid (below_next HB.out (Nat.le_refl _) hb); have HU := Lib.hid hr14; clear hr14 hb)
        | ((try go_simp); go_at_call 11; refine (HC5.out _ _ _ (HMG.out.up HB.out) (HQA.out.up HB.out) (HQE.out.up HB.out)).mono ?_; rintro e w16 ⟨rfl, hb⟩; replace HB := Lib.hid (below_next HB.out (Nat.le_refl _) hb); clear hb)
        | ((try go_simp); go_at_call 21; refine (HCF.out _ _ (HQR.out.up HB.out)).mono ?_; rintro e w17 ⟨rfl, hb⟩; replace HB := Lib.hid (below_next HB.out (Nat.le_refl _) hb); clear hb))
      all_goals
        go_simp
        go_wp2
        go_ret
        exact ⟨by first | rfl | simp, below_next HB0.out.drew (Nat.le_refl _) HB.out⟩

theorem kinds_any (E : Nat → Addr) (n : Int) (v : Value) (es : List (Int × Int)) (k : Int) (w : World) (hr : Edges w w.heap.size v es) (hE : Env E w) : Calls Tryz.prog 5 #[.int .i64 n, v, .int .i64 k] w (Truly w) := by
  by_cases h1 : n ≤ 8
  · by_cases h2 : (es.length : Int) ≤ 8
    · rcases hg : isG n es with _ | _
      · exact kinds_3 E n k v es w hr hE h1 h2 hg
      · by_cases h3 : 0 ≤ k
        · by_cases h4 : k ≤ (es.length : Int)
          · obtain ⟨m, ns, rfl, rfl, a1, a2, a3, a4⟩ := isG_nat hg
            obtain ⟨kk, rfl⟩ : ∃ kk : Nat, k = (kk : Int) := ⟨k.toNat, by omega⟩
            rw [castE_length] at h2 h4
            exact kinds_main E m kk v ns w hr hE a1 (by omega) (by omega) a4 (by omega)
          · exact kinds_5 E n k v es w hr hE h1 h2 hg h3 (by omega)
        · exact kinds_4 E n k v es w hr hE h1 h2 hg (by omega)
    · exact kinds_2 E n k v es w hr hE h1 (by omega)
  · exact kinds_1 E n k v es w hr hE (by omega)

end Wp
end Go.Proofs.YtbjngggcpojefaaGreatDoor
