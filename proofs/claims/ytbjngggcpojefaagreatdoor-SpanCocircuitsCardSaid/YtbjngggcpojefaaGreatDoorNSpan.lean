/- The program's Span, walked. -/
import Derived.Test.YtbjngggcpojefaaGreatDoorNCirc
import Derived.Deep.RegionHeld3
namespace Go.Proofs.YtbjngggcpojefaaGreatDoor
open Go.RowKit
attribute [local go_sem] Oper.semAt_some
namespace Wp

set_option maxHeartbeats 1000000 in
set_option maxRecDepth 100000 in
theorem outside_any (n : Int) (A : Option Addr) (len cap : Nat) (w : World) :
    Calls Tryz.prog 58 #[.int .i64 n, .slice A len cap] w fun e w' => e = .returned (.func (.func 78) #[] #[.pointer (some ⟨w.heap.size, 0, none⟩), .pointer (some ⟨w.heap.size + 1, 0, none⟩)]) ∧ w' = (w.alloc (.cells #[.int .i64 n] 3)).alloc (.cells #[.slice A len cap] 26) := by
  go_enter Tryz.func58, Tryz.ntmps58
  go_wp2
  go_ret
  exact ⟨rfl, rfl⟩
/-- Those of the first k numbers that s lacks. -/
def outN (s : List Int) (k : Nat) : List Nat := (List.range k).filter fun i => !hasB s (i : Int)
theorem outN_no {s : List Int} {k : Nat} (h : hasB s (k : Int) = true) : outN s (k + 1) = outN s k := by
  unfold outN
  rw [List.range_succ, List.filter_append]
  simp [h]
theorem outN_yes {s : List Int} {k : Nat} (h : hasB s (k : Int) = false) : outN s (k + 1) = outN s k ++ [k] := by
  unfold outN
  rw [List.range_succ, List.filter_append]
  simp [h]
theorem outN_len (s : List Int) (k : Nat) : (outN s k).length ≤ k := by
  unfold outN
  refine Nat.le_trans (List.length_filter_le _ _) ?_
  simp

set_option maxRecDepth 100000 in
set_option maxHeartbeats 4000000 in
theorem outside1_good (n : Nat) (_hn : 1 ≤ n) (Bn Bs n₀ N : Nat) (A : Option Addr) (c : Nat) (s : List Int) (w : World) (hN : Bn < w.heap.size) (hB : Bs < w.heap.size) (hn₀ : n₀ ≤ w.heap.size) (hcn : w.cell? ⟨Bn, 0, none⟩ = some (.int .i64 (N : Int))) (hcell : w.cell? ⟨Bs, 0, none⟩ = some (.slice A s.length c)) (hrow : Row w n₀ (.slice A s.length c) s) (hlen : s.length ≤ 1048576) (h64 : N ≤ 64) :
    SeqGood Fence.wide n Tryz.prog 78 #[.pointer (some ⟨Bn, 0, none⟩), .pointer (some ⟨Bs, 0, none⟩)] (fun x : Nat => #[.int .i64 (x : Int)]) (fun _ _ => True) (KeepsBox n₀ Bs) (fun xs => xs = outN s N) N w := by
  intro l J W hW hJa hY h0
  refine callsIn_of_wp Tryz.func78 rfl trivial ?_ rfl
  simp only [Tryz.ntmps78, List.size_toArray, List.length_cons, List.length_nil, Nat.reduceAdd, Nat.reduceSub, Array.replicate_succ, Array.replicate_zero, List.push_toArray, List.append_toArray, List.nil_append, List.cons_append]
  have hNW : W.cell? ⟨Bn, 0, none⟩ = some (.int .i64 (N : Int)) := (hW.cell (p := ⟨Bn, 0, none⟩) hN).trans hcn
  have hBW : W.cell? ⟨Bs, 0, none⟩ = some (.slice A s.length c) := (hW.cell (p := ⟨Bs, 0, none⟩) hB).trans hcell
  have HBW := Lib.hid hBW
  have HY := Lib.hid hY
  have HJa := Lib.hid hJa
  have HRow := Lib.hid (hrow.below (hW.mono hn₀))
  have hnW : n₀ ≤ W.heap.size := Nat.le_trans hn₀ hW.size
  have hBW2 : Bs < W.heap.size := Nat.lt_of_lt_of_le hB hW.size
  have Hno := Lib.hid (fun k h => outN_no (s := s) (k := k) h)
  have Hyes := Lib.hid (fun k h => outN_yes (s := s) (k := k) h)
  have Hol := Lib.hid (outN_len s)
  have Hhas := Lib.hid (fun (v : Value) (x : Int) (V : World) (h : Row V V.heap.size v s) => shas_any v s x V h hlen)
  have hNI : (N : Int) ≤ 64 := by omega
  clear hY hJa hrow hcell hcn hW hBW
  gi_wp2
  gi_loopw [6] (fun i wr => ∃ (k : Nat) (pre : List Nat), i = .int .i64 (k : Int) ∧ k ≤ N ∧ pre = outN s k ∧ J pre wr ∧ KeepsBox n₀ Bs W wr ∧ W.heap.size ≤ wr.heap.size) (fun i _ => N - (intOf i).toNat)
  case atStart => exact ⟨0, [], rfl, Nat.zero_le _, rfl, h0, ⟨Below.refl _ _, rfl⟩, Nat.le_refl _⟩
  case round =>
    clear h0 hNW
    obtain ⟨k, pre, rfl, hk, hpre, hJs, hkp, hsz⟩ := hrel
    have Hpre := Lib.hid hpre
    have Hkp := Lib.hid hkp
    have HJ := Lib.hid hJs
    clear hpre hkp hJs
    by_cases hlt : k < N
    · have hltI : (k : Int) < (N : Int) := by omega
      have eB := Hkp.out.2.trans HBW.out
      have hBr : Bs < wr.heap.size := by omega
      have Hra := Lib.hid ((HRow.out.below Hkp.out.1).mono (show n₀ ≤ wr.heap.size by omega))
      obtain ⟨bb, hbb⟩ : ∃ bb, hasB s (k : Int) = bb := ⟨_, rfl⟩
      have Hbb := Lib.hid hbb
      clear hbb
      gi_wp2_with fail
      refine ⟨trivial, (callsIn_wide.2 (Hhas.out _ (k : Int) _ Hra.out)).mono ?_⟩
      rintro e w3 ⟨rfl, hb3⟩
      rw [Hbb.out]
      have HJ3 := Lib.hid (abides_below HJa.out HJ.out hb3)
      have Hkp3 := Lib.hid (keepsBox_t Hkp.out (keepsBox_below hb3 (by omega) hBr))
      have hs3 : wr.heap.size ≤ w3.heap.size := hb3.size
      clear hb3 eB Hra
      cases bb
      · obtain ⟨fn, tmps, assign, body, hy, hR⟩ := HY.out pre k w3 HJ3.out trivial (by rw [Hpre.out]; exact Nat.lt_of_le_of_lt (Hol.out k) hlt)
        try simp only at hy
        gi_wp2
        refine hR.mono ?_
        rintro e W3 ⟨rfl, hJ3, hk3⟩
        have HJ4 := Lib.hid hJ3
        have Hkp4 := Lib.hid (keepsBox_t Hkp3.out hk3)
        have hs4 : w3.heap.size ≤ W3.heap.size := hk3.1.size
        clear hJ3 hk3 hy hR
        gi_wp2
        go_roundw
        case rel => exact ⟨k + 1, pre ++ [k], by go_num, by omega, by rw [Hpre.out]; exact (Hyes.out k Hbb.out).symm, HJ4.out, Hkp4.out, by omega⟩
        case measure => simp [intOf] <;> omega
      · gi_wp2
        refine ⟨fun _ _ => trivial, ?_⟩
        gi_wp2
        go_roundw
        case rel => exact ⟨k + 1, pre, by go_num, by omega, by rw [Hpre.out]; exact (Hno.out k Hbb.out).symm, HJ3.out, Hkp3.out, by omega⟩
        case measure => simp [intOf] <;> omega
    · obtain rfl : k = N := by omega
      gi_wp2
      go_end0
      exact ⟨⟨_, rfl⟩, _, Hpre.out, HJ.out⟩

/-- Those that were told so far that add to the rank. -/
noncomputable def moreN (m : Mat) (s : List Int) (pre : List Nat) : List Int := (pre.map fun i : Nat => (i : Int)).filter fun x => decide (rankT m s < rankT m (grownL s x))
theorem moreN_snoc (m : Mat) (s : List Int) (pre : List Nat) (x : Nat) : moreN m s (pre ++ [x]) = moreN m s pre ++ if rankT m s < rankT m (grownL s (x : Int)) then [(x : Int)] else [] := by
  unfold moreN
  rw [List.map_append, List.filter_append]
  congr 1
  simp only [List.map_cons, List.map_nil, List.filter_cons, List.filter_nil, decide_eq_true_eq]
theorem moreN_len (m : Mat) (s : List Int) (pre : List Nat) : (moreN m s pre).length ≤ pre.length := by
  unfold moreN
  refine Nat.le_trans (List.length_filter_le _ _) ?_
  simp
theorem moreN_all (m : Mat) (s : List Int) (k : Nat) : moreN m s (outN s k) = moreK m s k := by
  unfold moreN outN moreK upTo
  rw [List.filter_map, List.filter_map, List.filter_filter]
  congr 1
  apply List.filter_congr
  intro i _
  simp [Function.comp, Bool.and_comm]
theorem own_true {B : Nat} (p : Prop) : OwnFrom B (fun (_ : Unit) (_ : World) => p) := fun _ _ _ _ hs _ _ => hs

set_option maxHeartbeats 16000000 in
set_option maxRecDepth 100000 in
theorem span_1 (E : Nat → Addr) (m : Mat) (v sv : Value) (s : List Int) (w : World) (hv : MatV w w.heap.size v m) (hs : Sml m) (hr : Row w w.heap.size sv s) (hsl : s.length ≤ 1048576) (hE : Env E w) (h1 : mayI m s = false) : Calls Tryz.prog 38 #[v, sv] w (Gives w []) := by
  have Hs := Lib.hid hs
  obtain ⟨lv, iv, hve, hl2, hi2⟩ := hv.open
  obtain ⟨As, cs, rfl, _⟩ := id hr
  have hbs := boxed_below w m lv iv
  have hsw : (boxed w m lv iv).heap.size = w.heap.size + 1 := by unfold boxed; simp
  have Hb0 := Lib.hid (hbs.alloc hbs.size (.cells #[.slice As s.length cs] 26))
  have HV := Lib.hid (hv.up Hb0.out)
  have HR := Lib.hid (hr.up Hb0.out)
  have HE := Lib.hid (hE.up Hb0.out)
  have Hblk := Lib.hid ((boxed_blk w m lv iv).alloc (.cells #[.slice As s.length cs] 26))
  have hsb := Blk.new (boxed w m lv iv) 26 #[.slice As s.length cs]
  rw [hsw] at hsb
  have Hsb := Lib.hid hsb
  obtain ⟨Al, cl, rfl, _⟩ := hl2
  obtain ⟨Ai, ci, rfl, _⟩ := hi2
  subst hve
  unfold boxed at *
  clear hbs hsw hsb
  have H1 := Lib.hid h1
  clear hv hs hr hE h1
  refine (callsIn_wide (n := 8)).1 ?_
  refine callsIn_of_wp_marks Tryz.func38 rfl trivial ?_ rfl
  simp only [Tryz.ntmps38, List.size_toArray, List.length_cons, List.length_nil, Nat.reduceAdd, Nat.reduceSub, Array.replicate_succ, Array.replicate_zero, List.push_toArray, List.append_toArray, List.nil_append, List.cons_append]
  refine wpIn_wide.2 ?_
  have k0 := Hblk.out.cell 0
  have k1 := Hblk.out.cell 1
  have k2 := Hblk.out.cell 2
  have k3 := Hblk.out.cell 3
  have k4 := Hblk.out.cell 4
  have k5 := Hblk.out.cell 5
  have ks := Hsb.out.cell 0
  go_wp2_with fail
  refine (imay_any E m _ _ s _ HV.out Hs.out HR.out hsl HE.out).mono ?_
  rintro e w1 ⟨rfl, hb1⟩
  rw [H1.out]
  clear k0 k1 k2 k3 k4 k5 ks
  replace HE := Lib.hid (HE.out.up hb1)
  replace HV := Lib.hid (HV.out.up hb1)
  replace HR := Lib.hid (HR.out.up hb1)
  replace Hblk := Lib.hid (Hblk.out.below hb1 Hblk.out.lt)
  replace Hsb := Lib.hid (Hsb.out.below hb1 Hsb.out.lt)
  replace Hb0 := Lib.hid (below_next Hb0.out (Nat.le_refl _) hb1)
  clear hb1
  go_wp2
  refine ⟨.slice none 0 0, ?_, ⟨_, rfl, Row.nil_ _ _, Hb0.out⟩⟩
  simp [results, Tryz.f38, go_sem]

set_option maxHeartbeats 16000000 in
set_option maxRecDepth 100000 in
theorem span_2 (E : Nat → Addr) (m : Mat) (v sv : Value) (s : List Int) (w : World) (hv : MatV w w.heap.size v m) (hs : Sml m) (hr : Row w w.heap.size sv s) (hsl : s.length ≤ 1048576) (hE : Env E w) (h1 : mayI m s = true) : Calls Tryz.prog 38 #[v, sv] w (Gives w (minusL (allL m.n) (moreK m s m.n.toNat))) := by
  have Hs := Lib.hid hs
  obtain ⟨lv, iv, hve, hl2, hi2⟩ := hv.open
  obtain ⟨As, cs, rfl, _⟩ := id hr
  have hbs := boxed_below w m lv iv
  have hsw : (boxed w m lv iv).heap.size = w.heap.size + 1 := by unfold boxed; simp
  have Hb0 := Lib.hid (hbs.alloc hbs.size (.cells #[.slice As s.length cs] 26))
  have HV := Lib.hid (hv.up Hb0.out)
  have HR := Lib.hid (hr.up Hb0.out)
  have HE := Lib.hid (hE.up Hb0.out)
  have Hblk := Lib.hid ((boxed_blk w m lv iv).alloc (.cells #[.slice As s.length cs] 26))
  have hsb := Blk.new (boxed w m lv iv) 26 #[.slice As s.length cs]
  rw [hsw] at hsb
  have Hsb := Lib.hid hsb
  obtain ⟨Al, cl, rfl, _⟩ := hl2
  obtain ⟨Ai, ci, rfl, _⟩ := hi2
  subst hve
  unfold boxed at *
  clear hbs hsw hsb
  have H1 := Lib.hid h1
  have hc := (mayI_iff.1 h1).1
  have hn := chk_n hc
  obtain ⟨N, hN⟩ : ∃ N : Nat, m.n = (N : Int) := ⟨m.n.toNat, by omega⟩
  have h64 : N ≤ 64 := by omega
  have HN := Lib.hid hN
  have hs64 : s.length ≤ 64 := by
    have h6 := inN_len (mayI_iff.1 h1).2
    have h7 := (nN_cast hc).2
    omega
  obtain ⟨R, hR⟩ : ∃ R, rankT m s = R := ⟨_, rfl⟩
  have HRk := Lib.hid hR
  have Hsn := Lib.hid (moreN_snoc m s)
  have Hln := Lib.hid (moreN_len m s)
  have Hall : Hid (moreN m s (outN s N) = moreK m s m.n.toNat) := Lib.hid (by rw [moreN_all, hN]; rfl)
  have Hrank : Hid (∀ (y : Int) (v sv : Value) (W : World), MatV W W.heap.size v m → Row W W.heap.size sv (grownL s y) → Env E W → Calls Tryz.prog 17 #[v, sv] W (Tells W (rankT m (grownL s y)))) := Lib.hid fun y v sv W a b c => irank_any E m v sv _ W a Hs.out b (by have := grown_len s y; omega) c
  have Hgrow : Hid (∀ (y : Int) (v : Value) (W : World), Row W W.heap.size v s → Calls Tryz.prog 41 #[v, .int .i64 y] W (Gives W (grownL s y))) := Lib.hid fun y v W a => grown_any v s y W a hsl
  rw [hR] at Hsn
  clear hv hs hr hE h1 hc hn hR hN
  refine (callsIn_wide (n := 8)).1 ?_
  refine callsIn_of_wp_marks Tryz.func38 rfl trivial ?_ rfl
  simp only [Tryz.ntmps38, List.size_toArray, List.length_cons, List.length_nil, Nat.reduceAdd, Nat.reduceSub, Array.replicate_succ, Array.replicate_zero, List.push_toArray, List.append_toArray, List.nil_append, List.cons_append]
  refine wpIn_wide.2 ?_
  have k0 := Hblk.out.cell 0
  have k1 := Hblk.out.cell 1
  have k2 := Hblk.out.cell 2
  have k3 := Hblk.out.cell 3
  have k4 := Hblk.out.cell 4
  have k5 := Hblk.out.cell 5
  have ks := Hsb.out.cell 0
  go_wp2_with fail
  refine (imay_any E m _ _ s _ HV.out Hs.out HR.out hsl HE.out).mono ?_
  rintro e w1 ⟨rfl, hb1⟩
  rw [H1.out]
  clear k0 k1 k2 k3 k4 k5 ks
  replace HE := Lib.hid (HE.out.up hb1)
  replace HV := Lib.hid (HV.out.up hb1)
  replace HR := Lib.hid (HR.out.up hb1)
  replace Hblk := Lib.hid (Hblk.out.below hb1 Hblk.out.lt)
  replace Hsb := Lib.hid (Hsb.out.below hb1 Hsb.out.lt)
  replace Hb0 := Lib.hid (below_next Hb0.out (Nat.le_refl _) hb1)
  clear hb1
  have k0 := Hblk.out.cell 0
  have k1 := Hblk.out.cell 1
  have k2 := Hblk.out.cell 2
  have k3 := Hblk.out.cell 3
  have k4 := Hblk.out.cell 4
  have k5 := Hblk.out.cell 5
  have ks := Hsb.out.cell 0
  go_wp2_with fail
  refine (irank_any E m _ _ s _ HV.out Hs.out HR.out hsl HE.out).mono ?_
  rintro e w2 ⟨rfl, hb2⟩
  rw [HRk.out]
  clear k0 k1 k2 k3 k4 k5 ks
  replace HE := Lib.hid (HE.out.up hb2)
  replace HV := Lib.hid (HV.out.up hb2)
  replace HR := Lib.hid (HR.out.up hb2)
  replace Hblk := Lib.hid (Hblk.out.below hb2 Hblk.out.lt)
  replace Hsb := Lib.hid (Hsb.out.below hb2 Hsb.out.lt)
  replace Hb0 := Lib.hid (below_next Hb0.out (Nat.le_refl _) hb2)
  clear hb2
  have hlt0 := Hblk.out.lt
  have hlt1 := Hsb.out.lt
  have halt0 : w.heap.size < w2.heap.size := by omega
  have halt1 : w.heap.size < w2.heap.size + 1 := by omega
  have hale1 : w.heap.size ≤ w2.heap.size + 1 := by omega
  have hane1 : ¬ w.heap.size = w2.heap.size + 1 := by omega
  have halt2 : w.heap.size < w2.heap.size + 1 + 1 := by omega
  have hale2 : w.heap.size ≤ w2.heap.size + 1 + 1 := by omega
  have hane2 : ¬ w.heap.size = w2.heap.size + 1 + 1 := by omega
  have halt3 : w.heap.size < w2.heap.size + 1 + 1 + 1 := by omega
  have hale3 : w.heap.size ≤ w2.heap.size + 1 + 1 + 1 := by omega
  have hane3 : ¬ w.heap.size = w2.heap.size + 1 + 1 + 1 := by omega
  have halt4 : w.heap.size < w2.heap.size + 1 + 1 + 1 + 1 := by omega
  have hale4 : w.heap.size ≤ w2.heap.size + 1 + 1 + 1 + 1 := by omega
  have hane4 : ¬ w.heap.size = w2.heap.size + 1 + 1 + 1 + 1 := by omega
  have hblt0 : w.heap.size + 1 < w2.heap.size := by omega
  have hblt1 : w.heap.size + 1 < w2.heap.size + 1 := by omega
  have hble1 : w.heap.size + 1 ≤ w2.heap.size + 1 := by omega
  have hbne1 : ¬ w.heap.size + 1 = w2.heap.size + 1 := by omega
  have hblt2 : w.heap.size + 1 < w2.heap.size + 1 + 1 := by omega
  have hble2 : w.heap.size + 1 ≤ w2.heap.size + 1 + 1 := by omega
  have hbne2 : ¬ w.heap.size + 1 = w2.heap.size + 1 + 1 := by omega
  have hblt3 : w.heap.size + 1 < w2.heap.size + 1 + 1 + 1 := by omega
  have hble3 : w.heap.size + 1 ≤ w2.heap.size + 1 + 1 + 1 := by omega
  have hbne3 : ¬ w.heap.size + 1 = w2.heap.size + 1 + 1 + 1 := by omega
  have hblt4 : w.heap.size + 1 < w2.heap.size + 1 + 1 + 1 + 1 := by omega
  have hble4 : w.heap.size + 1 ≤ w2.heap.size + 1 + 1 + 1 + 1 := by omega
  have hbne4 : ¬ w.heap.size + 1 = w2.heap.size + 1 + 1 + 1 + 1 := by omega
  have k1 := Hblk.out.cell 1
  have ks := Hsb.out.cell 0
  replace k1 : w2.cell? ⟨w.heap.size, 1, none⟩ = some (.int .i64 (N : Int)) := by rw [k1, HN.out]; rfl
  go_wp2_with fail
  refine (outside_any (N : Int) As s.length cs _).mono ?_
  rintro e w7 ⟨rfl, rfl⟩
  go_wp2
  refine (wpIn_wide (n := 8)).1 ?_
  obtain ⟨B5, hB5⟩ : ∃ B5, w2.heap.size = B5 := ⟨_, rfl⟩
  have hla : w.heap.size < B5 := by rw [← hB5]; exact hlt0
  have hlb : w.heap.size + 1 < B5 := by rw [← hB5]; exact hlt1
  obtain ⟨wR, hwR⟩ : ∃ wR, w2.alloc (.cells #[.int .i64 R] 3) = wR := ⟨_, rfl⟩
  have hbR : Below w2.heap.size w2 wR := by rw [← hwR]; exact (Below.refl _ _).alloc (Nat.le_refl _) _
  have hrb : Blk wR B5 3 #[.int .i64 R] := by rw [← hwR, ← hB5]; exact Blk.new w2 _ _
  have hRs : wR.heap.size = B5 + 1 := by rw [← hwR, ← hB5]; simp
  have Hrb := Lib.hid hrb
  replace HE := Lib.hid (HE.out.up hbR)
  replace HV := Lib.hid (HV.out.up hbR)
  replace HR := Lib.hid (HR.out.up hbR)
  replace Hblk := Lib.hid (Hblk.out.below hbR Hblk.out.lt)
  replace Hsb := Lib.hid (Hsb.out.below hbR Hsb.out.lt)
  replace Hb0 := Lib.hid (below_next Hb0.out (Nat.le_refl _) hbR)
  rw [hB5, hwR]
  clear k1 ks hbR hrb hwR hB5 hlt0 hlt1 halt0 halt1 halt2 halt3 halt4 hblt0 hblt1 hblt2 hblt3 hblt4 hale1 hale2 hale3 hale4 hane1 hane2 hane3 hane4 hble1 hble2 hble3 hble4 hbne1 hbne2 hbne3 hbne4
  obtain ⟨Wc, hWc⟩ : ∃ Wc, ((wR.alloc (.cells #[.slice none 0 0] 26)).alloc (.cells #[.int .i64 (N : Int)] 3)).alloc (.cells #[.slice As s.length cs] 26) = Wc := ⟨_, rfl⟩
  have hWs : Wc.heap.size = B5 + 1 + 1 + 1 + 1 := by rw [← hWc]; simp only [size_more]; rw [hRs]
  have hK6 : Boxed Wc (B5 + 1) 26 (.slice none 0 0) := by
    rw [← hWc, ← hRs]
    exact ((Boxed.new wR _ _).alloc _).alloc _
  have hKn : Boxed Wc (B5 + 1 + 1) 3 (.int .i64 (N : Int)) := by
    rw [← hWc, ← hRs]
    have h := (Boxed.new (wR.alloc (.cells #[.slice none 0 0] 26)) 3 (.int .i64 (N : Int))).alloc (.cells #[.slice As s.length cs] 26)
    rw [size_more] at h
    exact h
  have hKs : Boxed Wc (B5 + 1 + 1 + 1) 26 (.slice As s.length cs) := by
    rw [← hWc, ← hRs]
    have h := Boxed.new ((wR.alloc (.cells #[.slice none 0 0] 26)).alloc (.cells #[.int .i64 (N : Int)] 3)) 26 (.slice As s.length cs)
    simp only [size_more] at h
    exact h
  have hbel : Below (B5 + 1) wR Wc := by
    rw [← hWc, ← hRs]
    exact (((Below.refl wR.heap.size wR).alloc (Nat.le_refl _) _).alloc (by rw [size_more]; omega) _).alloc (by simp only [size_more]; omega) _
  rw [hWc]
  clear hWc
  refine wpIn_range_good (α := Nat) (n := 8) rfl (by omega) (gf := 78) (lb := #[.pointer (some ⟨B5 + 1 + 1, 0, none⟩), .pointer (some ⟨B5 + 1 + 1 + 1, 0, none⟩)]) rfl trivial (enters_of Tryz.func78 (by kernel_rfl) rfl)
    (outside1_good 7 (by omega) (B5 + 1 + 1) (B5 + 1 + 1 + 1) (B5 + 1) N As cs s Wc (by omega) (by omega) (by omega) hKn.cell hKs.cell ((HR.out.mono (Nat.le_of_eq hRs)).below hbel) hsl h64)
    keepsBox_t (keepsBox_put (by omega) (by omega)) (Below.refl _ _) (fun _ => rfl)
    (fun pre W => Below (B5 + 1) wR W ∧ (∃ u, Boxed W (B5 + 1) 26 u ∧ W.ownsRow (B5 + 1) 3 1 u (moreN m s pre).length (ints (moreN m s pre)) ∧ True) ∧ Boxed W (B5 + 1 + 1 + 1) 26 (.slice As s.length cs) ∧ B5 + 1 + 1 + 1 + 1 ≤ W.heap.size)
    ((ownFrom_below (Nat.le_of_eq hRs.symm) (by omega)).and (((holdsRow_own (B5 + 1) (B5 + 1) 26 3 1 (fun pre => (moreN m s pre).length) (fun pre => ints (moreN m s pre)) (fun _ _ => True)).from _).and (((boxed_own (B5 + 1 + 1 + 1) 26 (fun _ => .slice As s.length cs)).from _).and (own_size _ _))))
    ⟨hbel, ⟨_, hK6, World.ownsRow_nil _ _ _ _, trivial⟩, hKs, by omega⟩
    (fun z a' _ => a' = { tmps := #[Value.agg #[.int .i64 m.t, .int .i64 m.n, .int .i64 m.a, .int .i64 m.b, .slice Al m.l.length cl, .slice Ai m.i.length ci], .slice As s.length cs, .pointer (some ⟨w.heap.size, 0, none⟩), .pointer (some ⟨w.heap.size + 1, 0, none⟩), .slice none 0 0, .pointer (some ⟨B5, 0, none⟩), .pointer (some ⟨B5 + 1, 0, none⟩), .int .i64 (z : Int), Value.agg #[.int .i64 m.t, .int .i64 m.n, .int .i64 m.a, .int .i64 m.b, .slice Al m.l.length cl, .slice Ai m.i.length ci], .slice As s.length cs, .bool true, .bool false, Value.agg #[.int .i64 m.t, .int .i64 m.n, .int .i64 m.a, .int .i64 m.b, .slice Al m.l.length cl, .slice Ai m.i.length ci], .slice As s.length cs, .int .i64 R, .pointer (some ⟨w.heap.size, 1, none⟩), .int .i64 (N : Int), .slice As s.length cs, .func (.func 78) #[] #[.pointer (some ⟨B5 + 1 + 1, 0, none⟩), .pointer (some ⟨B5 + 1 + 1 + 1, 0, none⟩)], .int .i64 (z : Int), undef, undef, undef, undef, undef, undef, undef, undef, undef, undef, undef, undef, undef, undef, undef, undef], defers := [] })
    (fun z a' => own_true _) ?assign ?body ?done
  case assign =>
    intro l pre y W Kk hi hgood hK
    have HK := Lib.hid (fun a' h4 => hK a' W (KeepsFrom.refl _ _) ⟨Below.refl _ _, rfl⟩ hi h4)
    clear hK hi hgood
    gi_wp2
    exact HK.out _ rfl
  case body =>
    rintro l pre y a' W hl hi rfl hlt
    obtain ⟨hi1, ⟨u, hbx, hown, _⟩, hbs, hsz⟩ := hi
    have hsn := Hsn.out pre y
    have hcl := Hln.out pre
    obtain ⟨cn2, hcn2⟩ : ∃ cn2, moreN m s (pre ++ [y]) = cn2 := ⟨_, rfl⟩
    rw [hcn2] at hsn
    have HCN := Lib.hid hcn2
    clear hcn2
    generalize moreN m s pre = cn at *
    obtain ⟨q, hq⟩ : ∃ q, rankT m (grownL s (y : Int)) = q := ⟨_, rfl⟩
    rw [hq] at hsn
    have Hq := Lib.hid hq
    have Hsn2 := Lib.hid hsn
    have hb5 : Below wR.heap.size wR W := by rw [hRs]; exact hi1
    have hbd := (Below.refl W.heap.size W).drew
    have HVd := Lib.hid ((HV.out.up hb5).up hbd)
    have HEd := Lib.hid ((HE.out.up hb5).up hbd)
    have HRd := Lib.hid ((HR.out.up hb5).up hbd)
    have Hbx := Lib.hid hbx
    have Hown := Lib.hid hown
    have Hbs := Lib.hid hbs
    have Hi1 := Lib.hid hi1
    have HK6 : Hid (∀ V, Below W.heap.size W V → V.cell? ⟨w.heap.size, 0, none⟩ = some (.int .i64 m.t) ∧ V.cell? ⟨w.heap.size, 1, none⟩ = some (.int .i64 m.n) ∧ V.cell? ⟨w.heap.size, 2, none⟩ = some (.int .i64 m.a) ∧ V.cell? ⟨w.heap.size, 3, none⟩ = some (.int .i64 m.b) ∧ V.cell? ⟨w.heap.size, 4, none⟩ = some (.slice Al m.l.length cl) ∧ V.cell? ⟨w.heap.size, 5, none⟩ = some (.slice Ai m.i.length ci) ∧ V.cell? ⟨w.heap.size + 1, 0, none⟩ = some (.slice As s.length cs) ∧ V.cell? ⟨B5, 0, none⟩ = some (.int .i64 R)) := Lib.hid fun V hV => by
      have hb := below_next hb5 (Nat.le_refl _) hV
      have a := Hblk.out.below hb Hblk.out.lt
      exact ⟨a.cell 0, a.cell 1, a.cell 2, a.cell 3, a.cell 4, a.cell 5, (Hsb.out.below hb Hsb.out.lt).cell 0, (Hrb.out.below hb Hrb.out.lt).cell 0⟩
    obtain ⟨k0, k1, k2, k3, k4, k5, ks, kr⟩ := HK6.out W (Below.refl _ _)
    have hcn : cn.length ≤ 64 := by omega
    have hyI : (y : Int) = (y : Int) := rfl
    clear hi1 hbx hown hbs hsn hq hb5 hbd hcl hyI
    obtain ⟨bq, hbq⟩ : ∃ bq, decide (R < q) = bq := ⟨_, rfl⟩
    have Hbq := Lib.hid hbq
    clear hbq
    have hmx : Tryz.prog.follows .mixedOrders = true := by kernel_rfl
    gi_wp2
    gi_region_with_o (first
      | (refine ⟨trivial, ?_⟩; gi_at_call 41; refine CallsIn.mono (CallsIn.inRound l (callsIn_wide.2 (Hgrow.out (y : Int) _ _ HRd.out))) ?_; rintro e w8 ⟨v8, rfl, hr8, hb8⟩; have Hr8 := Lib.hid hr8; have Hb8 := Lib.hid hb8; have hb8d := (Below.refl W.heap.size W).drew.trans hb8; obtain ⟨p0, p1, p2, p3, p4, p5, _, pr⟩ := HK6.out w8 hb8d; clear hr8 hb8 hb8d)
      | (refine ⟨trivial, ?_⟩; gi_at_call 17; refine CallsIn.mono (CallsIn.inRound l (callsIn_wide.2 (Hrank.out (y : Int) _ _ _ (HVd.out.up Hb8.out) Hr8.out (HEd.out.up Hb8.out)))) ?_; rintro e w9 ⟨rfl, hb9⟩; rw [Hq.out]; have Hb9 := Lib.hid (((Below.refl W.heap.size W).drew.trans Hb8.out).trans (hb9.mono (by have := Hb8.out.size; exact this))); obtain ⟨_, _, _, _, _, _, _, nr⟩ := HK6.out w9 Hb9.out; clear hb9))
    all_goals
      have Bx8 := Lib.hid (Hbx.out.kept (only_of_below Hb9.out none) (by simp))
      have Own8 := Lib.hid (own_stays Hown.out Hb9.out)
      have Bs8 := Lib.hid (Hbs.out.kept (only_of_below Hb9.out none) (by simp))
      have hs8 : W.heap.size ≤ w9.heap.size := Hb9.out.size
      clear k0 k1 k2 k3 k4 k5 ks kr p0 p1 p2 p3 p4 p5 pr nr Hbx Hown Hbs HVd HEd HRd Hb8 Hr8
      by_cases hRq : R < q
      · have e2 : cn2 = cn ++ [(y : Int)] := by rw [Hsn2.out, if_pos hRq]
        subst e2
        obtain ⟨i0, hi0, hz0, hz1, hz2⟩ := info_parts info3
        obtain ⟨Au, cu, rfl⟩ := own_slice Own8.out
        have d9 := Bx8.out.cell
        have HO := Lib.hid (Own8.out.alloc (.cells #[.int .i64 (y : Int)] 3))
        have Hlc := Lib.hid (lit_cell w9 3 (.int .i64 (y : Int)))
        have Hl1 := Lib.hid (lit_one (y : Int))
        gi_wp2_with (gi_at_builtin; refine wpListIn_append_own _ rfl _ _ 26 rfl (B5 + 1) 3 i0 (.int .i64 0) 1 8 (by kernel_rfl) hi0 hz0 hz1 hz2 rfl (by decide) (.slice Au cn.length cu) cn.length (ints cn) rfl HO.out ⟨w9.heap.size, 0, none⟩ 1 1 [.int .i64 (y : Int)] rfl rfl Hlc.out Hl1.out (by unfold maxLen; omega) (by omega) (by simp; omega) ?_)
        intro v10 w10 hown9 hgr9 _
        obtain ⟨A9, c9, rfl⟩ := own_slice hown9
        obtain ⟨q1, q2, q3, q4, q5⟩ := Boxed.appended Bx8.out (by decide) Own8.out (by omega) (Nat.le_refl _) hown9 hgr9
        have d8 := q1.cell
        have z8 := q1.frozen
        have Q2 := Lib.hid q2
        have Q3 := Lib.hid q3
        have Q4 := Lib.hid q4
        have Q5 := Lib.hid q5
        have Bs9 := Lib.hid ((((Bs8.out.alloc (.cells #[.int .i64 (y : Int)] 3)).kept hgr9 ((Bs8.out.alloc (.cells #[.int .i64 (y : Int)] 3)).not_row (by decide) HO.out))).other (show B5 + 1 + 1 + 1 ≠ B5 + 1 by omega) (.slice A9 (cn.length + 1) c9))
        have hs9 := q4.size
        clear q1 q2 q3 q4 q5 hown9 hgr9 d9 hi0
        gi_wp2
        refine ⟨(KeepsFrom.of_grownBy (only_of_below Hb9.out none) (fun j e => by cases e)).trans (Q4.out.from _), ⟨(Hb9.out.mono (by omega)).trans Q5.out, ?_⟩, (Hi1.out.trans (Hb9.out.mono (by omega))).trans Q5.out, ⟨_, Q2.out, ?_, trivial⟩, Bs9.out, by omega⟩
        · exact Bs9.out.cell.trans (Bs8.out.cell.symm.trans (Hb9.out.cell (p := ⟨B5 + 1 + 1 + 1, 0, none⟩) (by show B5 + 1 + 1 + 1 < _; omega)))
        · rw [HCN.out, ints_append, List.length_append]
          exact Q3.out
      · have e2 : cn2 = cn := by rw [Hsn2.out, if_neg hRq]; simp
        subst e2
        gi_wp2
        refine ⟨KeepsFrom.of_grownBy (only_of_below Hb9.out none) (fun j e => by cases e), keepsBox_below Hb9.out (by omega) (by omega), Hi1.out.trans (Hb9.out.mono (by omega)), ⟨u, Bx8.out, ?_⟩, Bs8.out, by omega⟩
        rw [HCN.out]
        first | exact Own8.out | exact ⟨Own8.out, trivial⟩
  case done =>
    rintro D xs W hD hS hi hK
    obtain ⟨hi1, ⟨u, hbx, hown, _⟩, _, hsz⟩ := hi
    rw [hS, Hall.out] at hown
    have hb5 : Below wR.heap.size wR W := by rw [hRs]; exact hi1
    have hlm : (moreK m s m.n.toNat).length ≤ 64 := by
      have h1 := Hln.out (outN s N)
      rw [Hall.out] at h1
      have h2 := outN_len s N
      omega
    have hrow := Row.of_own hown rfl
    have hbd := (Below.refl W.heap.size W).drew
    have HRw := Lib.hid (hrow.up hbd)
    have HK := Lib.hid hK
    have HB := Lib.hid (below_next Hb0.out (Nat.le_refl _) hb5)
    have HKd : Hid (∀ V, Below W.drew.heap.size W.drew V → V.cell? ⟨w.heap.size, 1, none⟩ = some (.int .i64 (N : Int)) ∧ V.cell? ⟨B5 + 1, 0, none⟩ = some u) := Lib.hid fun V hV => by
      have hb := below_next hb5 (Nat.le_refl _) (hbd.trans hV)
      refine ⟨?_, ((hbx.kept (only_of_below (hbd.trans hV) none) (by simp))).cell⟩
      rw [(Hblk.out.below hb Hblk.out.lt).cell 1, ← HN.out]
      rfl
    have HKk : Hid (∀ V, Below W.drew.heap.size W.drew V → V.heap[D]? = some (.deferred (some []))) := Lib.hid fun V hV => ((hbd.trans hV).block D (Array.getElem?_eq_some_iff.1 hK).1).trans hK
    have hall := all_len (N : Int)
    obtain ⟨mr, hmr⟩ : ∃ mr, moreK m s m.n.toNat = mr := ⟨_, rfl⟩
    rw [hmr] at HRw hlm
    have Hmr := Lib.hid hmr
    have hDl : D < W.heap.size := (Array.getElem?_eq_some_iff.1 hK).1
    have HB2 : Hid (Below W.drew.heap.size W.drew W.drew) := Lib.hid (Below.refl _ _)
    clear hi1 hbx hown hb5 hrow hbd hK hS hmr
    go_wp2
    go_region_held3 (fun V => V.cell? ⟨w.heap.size, 1, none⟩ = some (.int .i64 (N : Int)) ∧ V.cell? ⟨B5 + 1, 0, none⟩ = some u)
      (exact HKd.out _ HB2.out)
      (first
      | (go_at_call 45; refine (all_any (N : Int) _).mono ?_; rintro e w8 ⟨v8, rfl, hr8, hb8⟩; replace HB2 := Lib.hid (below_next HB2.out (Nat.le_refl _) hb8); have Hr8 := Lib.hid hr8; clear hr8 hb8)
      | (go_at_call 59; refine (minus_any _ _ (allL (N : Int)) mr _ Hr8.out (HRw.out.up HB2.out) (by omega) (by omega)).mono ?_; rintro e w9 ⟨v9, rfl, hr9, hb9⟩; replace HB2 := Lib.hid (below_next HB2.out (Nat.le_refl _) hb9); have Hr9 := Lib.hid hr9; clear hr9 hb9))
    all_goals
      go_simp
      go_wp2
      refine ⟨by simp, .inl ⟨_, _, rfl, run_takeDeferred (HKk.out _ HB2.out), ?_⟩⟩
      have hgr := grownBy_putObj' w9 D (.deferred none)
      have hs9 : W.heap.size ≤ w9.heap.size := HB2.out.size
      have hrow := own_row (B := 0) Hr9.out hgr (fun r e => by injection e with e; subst e; exact ⟨Nat.zero_le _, _, HKk.out _ HB2.out, rfl⟩)
      refine ⟨v9, ?_, ⟨_, rfl, by rw [Hmr.out, HN.out]; exact hrow, ?_⟩⟩
      · simp [results, Tryz.f38, go_sem]
      · exact (below_next HB.out (Nat.le_refl _) ((Below.refl W.heap.size W).drew.trans HB2.out)).grown hgr (by have := HB.out.size; omega) (fun k e => by injection e with e; omega)

theorem span_any (E : Nat → Addr) (m : Mat) (v sv : Value) (s : List Int) (w : World) (hv : MatV w w.heap.size v m) (hs : Sml m) (hr : Row w w.heap.size sv s) (hsl : s.length ≤ 1048576) (hE : Env E w) : Calls Tryz.prog 38 #[v, sv] w (Gives w (spanT m s)) := by
  rcases h1 : mayI m s with _ | _
  · rw [show spanT m s = [] from by unfold spanT; rw [h1]; rfl]
    exact span_1 E m v sv s w hv hs hr hsl hE h1
  · rw [show spanT m s = minusL (allL m.n) (moreK m s m.n.toNat) from by unfold spanT; rw [h1]; rfl]
    exact span_2 E m v sv s w hv hs hr hsl hE h1

end Wp
end Go.Proofs.YtbjngggcpojefaaGreatDoor
