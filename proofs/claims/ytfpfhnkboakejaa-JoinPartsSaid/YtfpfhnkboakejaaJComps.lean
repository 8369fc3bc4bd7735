/- The program's Comps: each vertex's least connected one: walked. -/
import Derived.Test.YtfpfhnkboakejaaJMerge
import Derived.StillTailTactics
import Derived.Deep.OwnRows
namespace Go.Proofs.Ytfpfhnkboakejaa
open Go.RowKit
namespace Wp

/-- Edges of numbers from 0 on, as integers. -/
def castE (ns : List (Nat × Nat)) : List (Int × Int) := ns.map fun e => ((e.1 : Int), (e.2 : Int))
theorem castE_length (ns : List (Nat × Nat)) : (castE ns).length = ns.length := by simp [castE]
theorem castE_getD (ns : List (Nat × Nat)) (k : Nat) : (castE ns).getD k (0, 0) = (((ns.getD k (0, 0)).1 : Int), ((ns.getD k (0, 0)).2 : Int)) := by
  unfold castE
  rw [List.getD_eq_getElem?_getD, List.getD_eq_getElem?_getD, List.getElem?_map]
  rcases ns[k]? with _ | e <;> rfl
theorem castE_append (a b : List (Nat × Nat)) : castE (a ++ b) = castE a ++ castE b := List.map_append
/-- What is a graph has numbers alone. -/
theorem isG_nat {n : Int} {es : List (Int × Int)} (h : isG n es = true) : ∃ (m : Nat) (ns : List (Nat × Nat)), n = m ∧ es = castE ns ∧ 1 ≤ m ∧ m ≤ 64 ∧ ns.length ≤ 4096 ∧ Lies m ns := by
  unfold isG sizeB at h
  rw [Bool.and_eq_true, decide_eq_true_iff, List.all_eq_true] at h
  obtain ⟨⟨h1, h2, h3⟩, h4⟩ := h
  refine ⟨n.toNat, es.map fun e => (e.1.toNat, e.2.toNat), by omega, ?_, by omega, by omega, by simpa using h3, ?_⟩
  · unfold castE
    rw [List.map_map]
    conv => lhs; rw [← List.map_id es]
    refine List.map_congr_left fun e he => ?_
    have := h4 e he
    simp only [okE, decide_eq_true_iff] at this
    obtain ⟨a, b⟩ := e
    simp only [id, Function.comp, Prod.mk.injEq]
    simp only at this
    omega
  · intro e he
    obtain ⟨x, hx, rfl⟩ := List.mem_map.1 he
    have := h4 x hx
    simp only [okE, decide_eq_true_iff] at this
    simp only
    omega
theorem isG_of {m : Nat} {ns : List (Nat × Nat)} (h1 : 1 ≤ m) (h2 : m ≤ 64) (h3 : ns.length ≤ 4096) (h4 : Lies m ns) : isG m (castE ns) = true := by
  unfold isG sizeB
  rw [Bool.and_eq_true, decide_eq_true_iff, List.all_eq_true]
  refine ⟨⟨by omega, by omega, by rw [castE_length]; exact h3⟩, fun e he => ?_⟩
  obtain ⟨x, hx, rfl⟩ := List.mem_map.1 he
  have := h4 x hx
  simp only [okE, decide_eq_true_iff]
  omega

/-- A call gives labels in a new block, and no error. -/
def GivesLabels (w : World) (m : Nat) (f : Nat → Nat) (e : Ending) (w' : World) : Prop :=
  ∃ g, e = .returned (.tuple #[.slice (some ⟨g, 0, none⟩) m m, .int .i64 0]) ∧ Labels w' g m f ∧ w.heap.size ≤ g ∧ Below w.heap.size w w'

def compUpto (ns : List (Nat × Nat)) (k : Nat) : Nat → Nat := compF (ns.take k)
theorem compUpto_step {ns : List (Nat × Nat)} {k : Nat} (hk : k < ns.length) : compUpto ns (k + 1) = compStep (compUpto ns k) (ns.getD k (0, 0)) := by
  unfold compUpto
  rw [List.take_succ_eq_append_getElem hk, comp_snoc]
  simp [List.getD, hk]
theorem edge_lies {m : Nat} {ns : List (Nat × Nat)} (h : Lies m ns) {k : Nat} (hk : k < ns.length) : (ns.getD k (0, 0)).1 < m ∧ (ns.getD k (0, 0)).2 < m := by
  have := h ns[k] (List.getElem_mem hk)
  simpa [List.getD, hk] using this

set_option maxHeartbeats 4000000 in
set_option maxRecDepth 100000 in
theorem comps_bad (n : Int) (v : Value) (es : List (Int × Int)) (w : World) (hr : Edges w w.heap.size v es) (hl : es.length ≤ 1048576) (hb : isG n es = false) :
    Calls Try.prog 9 #[.int .i64 n, v] w fun e w' => e = .returned (.tuple #[.slice none 0 0, .int .i64 1]) ∧ Below w.heap.size w w' := by
  have Hr := Lib.hid hr
  have Hb := Lib.hid hb
  obtain ⟨A, c, rfl, _⟩ := hr
  clear hb
  go_enter Try.func9, Try.ntmps9
  go_wp2_with fail
  refine (isgraph_is n _ es w Hr.out hl Hb.out).mono ?_
  rintro e w1 ⟨rfl, hb1⟩
  go_wp2
  go_ret2
  exact ⟨rfl, hb1⟩

set_option maxHeartbeats 8000000 in
set_option maxRecDepth 100000 in
theorem comps_good (m : Nat) (v : Value) (ns : List (Nat × Nat)) (w : World) (hr : Edges w w.heap.size v (castE ns)) (h1 : 1 ≤ m) (h2 : m ≤ 64) (h3 : ns.length ≤ 4096) (h4 : Lies m ns) :
    Calls Try.prog 9 #[.int .i64 m, v] w (GivesLabels w m (compF ns)) := by
  have Hr := Lib.hid hr
  have Hg := Lib.hid (isG_of h1 h2 h3 h4)
  have Hlies := Lib.hid h4
  have hl : (castE ns).length ≤ 1048576 := by rw [castE_length]; omega
  obtain ⟨A, c, hv, _, hcell⟩ := hr
  rw [castE_length] at hv hcell
  subst hv
  have Hcell := Lib.hid hcell
  clear hcell h4
  have h2' : (m : Int) ≤ 64 := by omega
  have h1' : 1 ≤ (m : Int) := by omega
  have h3' : (ns.length : Int) ≤ 4096 := by omega
  have hmk := fun W => run_make_row' 24 3 (.int .i64 0) 8 Try.underlying24 info3 rfl .i64 .i64 m (by omega) (by omega) W
  go_enter Try.func9, Try.ntmps9
  go_wp2_with fail
  refine (isgraph_is m _ (castE ns) w Hr.out hl Hg.out).mono ?_
  rintro e w1 ⟨rfl, hb1⟩
  obtain ⟨g, hg⟩ : ∃ g, g = w1.heap.size := ⟨_, rfl⟩
  have Hgs : Hid (w.heap.size ≤ g) := by
    show _ ≤ _
    rw [hg]; exact hb1.size
  have Hlab0 : Hid (Labels (w1.alloc (.cells (madeCells #[.int .i64 0] m) 3)) g m (fun j => if j < 0 then j else 0)) := by
    show Labels _ _ _ _
    rw [hg]
    exact World.rowIs.congr (World.rowIs_made w1 (.int .i64 0) m 3) fun i _ => by simp
  have Hb1 : Hid (Below w.heap.size w (w1.alloc (.cells (madeCells #[.int .i64 0] m) 3))) := hb1.alloc hb1.size _
  clear hb1
  go_wp2
  rw [← hg]
  clear hg hmk
  go_loopw [18] (fun vk wr => ∃ k : Nat, vk = .int .i64 k ∧ k ≤ m ∧ Labels wr g m (fun j => if j < k then j else 0) ∧ Below w.heap.size w wr) (fun vk _ => m - (intOf vk).toNat)
  case atStart => exact ⟨0, rfl, Nat.zero_le _, Hlab0.out, Hb1.out⟩
  case round =>
    obtain ⟨k, rfl, hk, hlab, hbr⟩ := hrel
    have Hlab := Lib.hid hlab
    have Hbr := Lib.hid hbr
    clear hlab hbr
    by_cases hlt : k < m
    · have hc : wr.cell? ⟨g, k, none⟩ = some (.int .i64 0) := by
        have := Hlab.out.cell hlt
        simpa using this
      have hfz : wr.frozen? ⟨g, k, none⟩ = false := Hlab.out.frozen k
      go_wp2
      go_roundw
      case rel =>
        refine ⟨k + 1, by go_num, by omega, (Hlab.out.set k k).congr fun i hi => ?_, Hbr.out.setCell Hgs.out _⟩
        by_cases hik : i = k
        · simp [hik]
        · by_cases hlt' : i < k
          · simp [hik, hlt', show i < k + 1 by omega]
          · simp [hik, hlt', show ¬ i < k + 1 by omega]
      case measure => simp [intOf]; omega
    · have hke : k = m := by omega
      have Hlab2 := Lib.hid (Hlab.out.congr (f' := compUpto ns 0) (fun i hi => by simp [compUpto, compF, show i < k by omega]))
      clear Hlab
      go_wp2
      go_loopw [28] (fun vk wr => ∃ k : Nat, vk = .int .i64 k ∧ k ≤ ns.length ∧ Labels wr g m (compUpto ns k) ∧ Below w.heap.size w wr) (fun vk _ => ns.length - (intOf vk).toNat)
      case atStart => exact ⟨0, rfl, Nat.zero_le _, Hlab2.out, Hbr.out⟩
      case round =>
        clear Hlab2 Hbr hke hlt hk
        obtain ⟨k, rfl, hk, hlab, hbr⟩ := hrel
        have Hlab := Lib.hid hlab
        have Hbr := Lib.hid hbr
        clear hlab hbr
        by_cases hlt : k < ns.length
        · obtain ⟨ad, hA, hab, q1, q2⟩ := Hcell.out k hlt
          subst hA
          rw [castE_getD] at q1 q2
          simp only at q1 q2
          have g1 := (Hbr.out.cell (p := ad.add (k * 2)) (by rw [add_block]; exact hab)).trans q1
          have g2 := (Hbr.out.cell (p := ⟨(ad.add (k * 2)).block, (ad.add (k * 2)).off + 1, none⟩) (by show (ad.add (k * 2)).block < _; rw [add_block]; exact hab)).trans q2
          clear q1 q2 Hcell
          have hlie := edge_lies Hlies.out hlt
          have Hstep := Lib.hid (compUpto_step hlt)
          obtain ⟨⟨x, y⟩, hxy⟩ : ∃ e, e = ns.getD k (0, 0) := ⟨_, rfl⟩
          rw [← hxy] at g1 g2 hlie Hstep
          clear hxy
          simp only at g1 g2 hlie
          obtain ⟨hx, hy⟩ := hlie
          have hx' : (x : Int) < m := by omega
          have hy' : (y : Int) < m := by omega
          have Hnew := Blk.new wr 37 #[.int .i64 (x : Int), .int .i64 (y : Int)]
          have d0 := Hnew.cell 0
          have d1 := Hnew.cell 1
          simp only [List.getElem?_toArray, List.getElem?_cons_zero, List.getElem?_cons_succ] at d0 d1
          have Hlw := Lib.hid (World.rowIs.alloc Hlab.out (.cells #[.int .i64 (x : Int), .int .i64 (y : Int)] 37))
          have c1 := Hlw.out.cell hx
          have c2 := Hlw.out.cell hy
          have Hbw := Lib.hid (Hbr.out.alloc Hbr.out.size (.cells #[.int .i64 (x : Int), .int .i64 (y : Int)] 37))
          clear Hnew
          go_wp2
          generalize wr.alloc (.cells #[.int .i64 (x : Int), .int .i64 (y : Int)] 37) = W at *
          generalize wr.heap.size = eb at *
          go_still_tail 11, (by kernel_rfl)
          change wpList _ _ _ _ _ W.drew
          go_wp2_with fail
          refine (merge_any g m (compUpto ns k) (compUpto ns k x) (compUpto ns k y) W.drew Hlw.out h2).mono ?_
          rintro e w3 ⟨rfl, hlab3, hgr3⟩
          have Hlab3 := Lib.hid hlab3
          have Hgr3 := Lib.hid hgr3
          clear hlab3 hgr3
          go_wp2
          go_roundw
          case rel =>
            refine ⟨k + 1, by go_num, by omega, by rw [Hstep.out]; exact Hlab3.out, Hbw.out.trans ?_⟩
            exact ((Below.refl w.heap.size W).drew).grown Hgr3.out Hbw.out.size (fun i hi => by injection hi with hi; rw [← hi]; exact Hgs.out)
          case measure => simp [intOf]; omega
        · have hke : k = ns.length := by omega
          have Hfin := Lib.hid (Hlab.out.congr (f' := compF ns) (fun i _ => by unfold compUpto; rw [hke, List.take_length]))
          go_wp2
          go_ret2
          exact ⟨g, rfl, Hfin.out, Hgs.out, Hbr.out⟩

end Wp
end Go.Proofs.Ytfpfhnkboakejaa
