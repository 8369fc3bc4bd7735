/- What is come to: the program's walking, walked. -/
import Derived.Test.YtmgfhehnehcmpaaRRep
import Derived.Test.YtmgfhehnehcmpaaRRun
import Derived.Test.YtmgfhehnehcmpaaKCover
namespace Go.Proofs.Ytmgfhehnehcmpaa
open Go.RowKit
namespace Wp

theorem row_addr {w : World} {B : Nat} {A : Option Addr} {l : List Int} (h0 : 0 < l.length) (hk : ∀ k, k < l.length → ∃ ad : Addr, A = some ad ∧ ad.block < B ∧ w.cell? (ad.add k) = some (.int .i64 (l.getD k 0))) : ∃ b off, A = some ⟨b, off, none⟩ ∧ b < B ∧ ∀ j, j < l.length → w.cell? ⟨b, off + j, none⟩ = some (.int .i64 (l.getD j 0)) := by
  obtain ⟨ad, rfl, hab, hc⟩ := hk 0 h0
  obtain ⟨b, off, spot⟩ := ad
  have hspot : spot = none := by simpa [Addr.add] using World.cell?_spot hc
  subst hspot
  refine ⟨b, off, rfl, hab, fun j hj => ?_⟩
  obtain ⟨ad', hA, _, hc'⟩ := hk j hj
  injection hA with hA
  subst hA
  rw [← hc']
  congr 1
  unfold Addr.add
  split
  · simp
  · rfl
theorem clone_any (v : Value) (l : List Int) (B : Nat) (w : World) (hr : Row w B v l) (hl : l.length ≤ 4096) :
    Calls Try.prog 48 #[v] w fun e w' => ∃ v', e = .returned v' ∧ w'.ownsRow w.heap.size 3 1 v' (ints l).length (ints l) ∧ Below w.heap.size w w' := by
  obtain ⟨A, c, rfl, hn, hk⟩ := hr
  by_cases h0 : l.length = 0
  · have hl0 : l = [] := List.eq_nil_of_length_eq_zero h0
    subst hl0
    cases A with
    | none =>
      refine (Try.slices_Clone_int_nil _ c w).mono ?_
      rintro e w' ⟨rfl, rfl⟩
      exact ⟨_, rfl, World.ownsRow_nil _ _ _ _, Below.refl _ _⟩
    | some a =>
      refine (Try.slices_Clone_int_zero a c w).mono ?_
      rintro e w' ⟨v', rfl, h1, _, h2⟩
      exact ⟨v', rfl, h1, h2⟩
  · obtain ⟨b, off, rfl, _, hc⟩ := row_addr (by omega) hk
    have h := Try.slices_Clone_int b off l.length c l w (Nat.le_refl _) (by omega) hc
    rw [List.take_length] at h
    refine h.mono ?_
    rintro e w' ⟨v', rfl, h1, _, h2⟩
    exact ⟨v', rfl, by rw [ints_length]; exact h1, h2⟩

/-- The memory of it: the points come to, the one ahead of each. -/
structure WS (w0 wr : World) (bp g n : Nat) (cv : Value) (come : List Int) (ah : Nat → Int) : Prop where
  box : Blk wr bp 52 #[cv, .slice (some ⟨g, 0, none⟩) n n]
  res : Blk wr w0.heap.size 52 #[.slice none 0 0, .slice none 0 0]
  own : wr.ownsRow (w0.heap.size + 1) 3 1 cv (ints come).length (ints come)
  ahd : NumsK wr g n ah
  below : Below w0.heap.size w0 wr
  n1 : some g ≠ cv.ownBlock
  n2 : some bp ≠ cv.ownBlock
  n3 : g ≠ bp
  lg : w0.heap.size < g
  lb : w0.heap.size < bp
section
variable {w0 wr : World} {bp g n : Nat} {cv : Value} {come : List Int} {ah : Nat → Int}
theorem WS.row (h : WS w0 wr bp g n cv come ah) : Row wr wr.heap.size cv come := Row.of_own (zs := come) h.own (ints_length _)
theorem WS.congr {ah' : Nat → Int} (h : WS w0 wr bp g n cv come ah) (e : ∀ i, i < n → ah i = ah' i) : WS w0 wr bp g n cv come ah' := ⟨h.box, h.res, h.own, h.ahd.congr e, h.below, h.n1, h.n2, h.n3, h.lg, h.lb⟩
theorem WS.set (h : WS w0 wr bp g n cv come ah) (q : Nat) (x : Int) : WS w0 (wr.setCell ⟨g, q, none⟩ (.int .i64 x)) bp g n cv come (updI ah q x) where
  box := h.box.far (p := ⟨g, q, none⟩) (fun e => h.n3 e.symm) _
  res := h.res.far (p := ⟨g, q, none⟩) (by have := h.lg; show w0.heap.size ≠ g; omega) _
  own := h.own.kept (grown_set wr g q _) (.inr fun e => h.n1 e.symm)
  ahd := h.ahd.set q x
  below := h.below.setCell (p := ⟨g, q, none⟩) (Nat.le_of_lt h.lg) _
  n1 := h.n1
  n2 := h.n2
  n3 := h.n3
  lg := h.lg
  lb := h.lb
theorem WS.up (h : WS w0 wr bp g n cv come ah) {w' : World} (hb : Below wr.heap.size wr w') : WS w0 w' bp g n cv come ah where
  box := h.box.below hb (Blk.lt h.box)
  res := h.res.below hb (Blk.lt h.res)
  own := h.own.kept (only_of_below hb none) (by
    rcases cv.ownBlock with _ | q
    · exact .inl rfl
    · exact .inr (by simp))
  ahd := h.ahd.below hb
  below := h.below.trans (hb.mono h.below.size)
  n1 := h.n1
  n2 := h.n2
  n3 := h.n3
  lg := h.lg
  lb := h.lb
theorem WS.push (h : WS w0 wr bp g n cv come ah) {w7 : World} {v7 : Value} {q : Int} (hown : w7.ownsRow (w0.heap.size + 1) 3 1 v7 ((ints come).length + 1) (ints come ++ [.int .i64 q])) (hg : wr.grownBy w7 cv.ownBlock) (hl : v7.ownBlock = cv.ownBlock ∨ v7.ownBlock = some wr.heap.size) :
    WS w0 (w7.setCell ⟨bp, 0, none⟩ v7) bp g n v7 (come ++ [q]) ah := by
  have l1 := Blk.lt h.box
  have l2 := World.rowIs.lt h.ahd
  have l3 := Blk.lt h.res
  have m1 : some g ≠ v7.ownBlock := by
    rcases hl with e | e
    · rw [e]; exact h.n1
    · rw [e]; intro e2; injection e2 with e2; omega
  have m2 : some bp ≠ v7.ownBlock := by
    rcases hl with e | e
    · rw [e]; exact h.n2
    · rw [e]; intro e2; injection e2 with e2; omega
  have hres : some w0.heap.size ≠ cv.ownBlock := fun e => by
    have := (h.own.lt _ e.symm).1
    omega
  refine ⟨?_, ?_, ?_, ?_, ?_, m1, m2, h.n3, h.lg, h.lb⟩
  · exact (h.box.grown hg h.n2).set_ 0 v7
  · exact (h.res.grown hg hres).far (p := ⟨bp, 0, none⟩) (by have := h.lb; show w0.heap.size ≠ bp; omega) _
  · rw [ints_append, List.length_append]
    exact World.ownsRow.kept hown (grown_set w7 bp 0 v7) (.inr fun e => m2 e.symm)
  · exact World.rowIs.of_block (World.rowIs.of_block h.ahd (hg.block g l2 h.n1)) (Below.heap_setCell w7 ⟨bp, 0, none⟩ v7 g h.n3)
  · exact (h.below.grown hg h.below.size (fun i hi => by have := (h.own.lt i hi).1; omega)).setCell (p := ⟨bp, 0, none⟩) (Nat.le_of_lt h.lb) _
end

/-- What walking answers. -/
def WalkP (w : World) (adj : List (List Int)) (src : List Int) (e : Ending) (w' : World) : Prop :=
  ∃ (cv : Value) (g : Nat), e = .returned (.agg #[cv, .slice (some ⟨g, 0, none⟩) adj.length adj.length]) ∧ Row w' w'.heap.size cv (finS adj src).1 ∧ NumsK w' g adj.length (finS adj src).2 ∧ Below w.heap.size w w'

set_option maxHeartbeats 4000000 in
set_option maxRecDepth 100000 in
theorem walking_any (v vf : Value) (adj : List (List Int)) (src : List Int) (w : World) (hr : Rows2 w w.heap.size v adj) (hf : Row w w.heap.size vf src) (hd : Dig adj) (hs : Pts adj.length src) (hn : adj.length ≤ 4096) :
    Calls Try.prog 35 #[v, vf] w (WalkP w adj src) := by
  have hsl : src.length ≤ 4096 := by
    have := nodup_le (b := (List.range adj.length).map Int.ofNat) (hs.up.imp fun hab e => by omega) fun x hx => by
      have := hs.pt x hx
      exact List.mem_map.2 ⟨x.toNat, List.mem_range.2 (by omega), by show (x.toNat : Int) = x; omega⟩
    simp at this
    omega
  have Hd := Lib.hid hd
  have Hs := Lib.hid hs
  have Hf := Lib.hid hf
  obtain ⟨A, c, rfl, hcap, hcell⟩ := hr
  obtain ⟨Af, cf, rfl, hcapf, hcellf⟩ := hf
  have Hcell := Lib.hid hcell
  have Hcellf := Lib.hid hcellf
  have hb0 := Blk.new w 52 #[.slice none 0 0, .slice none 0 0]
  have Hb0 := Lib.hid hb0
  have HB0 := Lib.hid ((Below.refl w.heap.size w).alloc (Nat.le_refl _) (.cells #[.slice none 0 0, .slice none 0 0] 52))
  have Hf0 := Lib.hid (Hf.out.upA (.cells #[.slice none 0 0, .slice none 0 0] 52))
  clear hb0 hd hs hcell hcellf
  go_enter Try.func35, Try.ntmps35
  go_wp2_with fail
  refine (clone_any _ src _ _ Hf0.out hsl).mono ?_
  rintro e w1 ⟨cv, rfl, hown1, hb1⟩
  have hsz0 : (w.alloc (.cells #[.slice none 0 0, .slice none 0 0] 52)).heap.size = w.heap.size + 1 := by simp
  rw [hsz0] at hown1 hb1
  have Hown1 := Lib.hid hown1
  have Hb1 := Lib.hid (Blk.below Hb0.out hb1 (by omega))
  have HB1 : Hid (Below w.heap.size w w1) := Lib.hid (HB0.out.trans (hb1.mono (by omega)))
  have hsz1 : w.heap.size + 1 ≤ w1.heap.size := by have := hb1.size; omega
  clear hown1 hb1 Hb0 HB0 Hf0
  have Hlit := Lib.hid (cellN w1 _ rfl (.int .i64 (-1)) 3)
  go_wp2_with fail
  refine (repeat_any w1.heap.size adj.length _ Hlit.out (by simp) hn).mono ?_
  rintro e w2 ⟨rfl, hN2, hb2⟩
  have hsz2 : (w1.alloc (.cells #[.int .i64 (-1)] 3)).heap.size = w1.heap.size + 1 := by simp
  rw [hsz2] at hN2 hb2 ⊢
  obtain ⟨Ac, cc, hcv, -⟩ := Row.of_own (zs := src) Hown1.out (ints_length _)
  subst hcv
  have Hall : Hid (Below w1.heap.size w1 w2) := Lib.hid (((Below.refl _ w1).alloc (Nat.le_refl _) (.cells #[.int .i64 (-1)] 3)).trans (hb2.mono (by omega)))
  have hg2 : w1.heap.size + 1 < w2.heap.size := World.rowIs.lt hN2
  obtain ⟨bp, hbp⟩ : ∃ bp, w2.heap.size = bp := ⟨_, rfl⟩
  obtain ⟨g, hg⟩ : ∃ g, w1.heap.size + 1 = g := ⟨_, rfl⟩
  have Hst : Hid (WS w (w2.alloc (.cells #[.slice Ac src.length cc, .slice (some ⟨g, 0, none⟩) adj.length adj.length] 52)) bp g adj.length (.slice Ac src.length cc) src (fun x => if (x : Int) ∈ src.take 0 then -2 else -1)) := Lib.hid (by
    have hw3 : Below w2.heap.size w2 (w2.alloc (.cells #[.slice Ac src.length cc, .slice (some ⟨g, 0, none⟩) adj.length adj.length] 52)) := (Below.refl _ w2).alloc (Nat.le_refl _) _
    have hown2 := Hown1.out.kept (only_of_below Hall.out none) (by
      rcases (Value.slice Ac src.length cc).ownBlock with _ | q
      · exact .inl rfl
      · exact .inr (by simp))
    have hlt : ∀ k, (Value.slice Ac src.length cc).ownBlock = some k → k < w1.heap.size := fun k hk => (Hown1.out.lt k hk).2
    refine ⟨?_, ?_, ?_, ?_, ?_, ?_, ?_, by omega, by omega, by omega⟩
    · rw [← hbp]
      exact Blk.new w2 _ _
    · exact (Hb1.out.below Hall.out (by omega)).below hw3 (by omega)
    · exact hown2.kept (only_of_below hw3 none) (by
        rcases (Value.slice Ac src.length cc).ownBlock with _ | q
        · exact .inl rfl
        · exact .inr (by simp))
    · rw [hg] at hN2
      exact (NumsK.congr hN2 fun i _ => by simp).below hw3
    · exact (HB1.out.trans (Hall.out.mono (by omega))).trans (hw3.mono (by omega))
    · intro e
      have := hlt _ e.symm
      omega
    · intro e
      have := hlt _ e.symm
      omega)
  have hgw : w.heap.size < g := by omega
  rw [hg]
  clear hN2 hb2 Hlit Hown1 Hb1 HB1 Hall
  go_wp2
  try rw [hbp]
  obtain ⟨w3, hw3⟩ : ∃ w3, w2.alloc (.cells #[.slice Ac src.length cc, .slice (some ⟨g, 0, none⟩) adj.length adj.length] 52) = w3 := ⟨_, rfl⟩
  rw [hw3] at Hst ⊢
  clear hw3 hbp hg hsz2 hg2 hsz1 hsz0
  go_loopw [21] (fun vi wr => ∃ k : Nat, vi = .int .i64 k ∧ k ≤ src.length ∧ WS w wr bp g adj.length (.slice Ac src.length cc) src (fun x => if (x : Int) ∈ src.take k then -2 else -1)) (fun vi _ => src.length - (intOf vi).toNat)
  case atStart => exact ⟨0, rfl, Nat.zero_le _, Hst.out⟩
  case round =>
    clear Hst
    obtain ⟨k, rfl, hk, hws⟩ := hrel
    have Hws := Lib.hid hws
    have g1 := Blk.cell hws.box 1
    clear hws
    by_cases hlt : k < src.length
    · have hkI : (k : Int) < (src.length : Int) := by omega
      obtain ⟨ad, hA, hab, hck⟩ := Hcellf.out k hlt
      subst hA
      obtain ⟨q, hq, hqn⟩ : ∃ q : Nat, src.getD k 0 = (q : Int) ∧ q < adj.length := by
        have := Hs.out.pt (src.getD k 0) (by simp [List.getD, hlt])
        exact ⟨(src.getD k 0).toNat, by omega, by omega⟩
      rw [hq] at hck
      have g2 := (Hws.out.below.cell (p := ad.add k) (by rw [add_block]; exact hab)).trans hck
      have g3 := NumsK.at Hws.out.ahd hqn
      have g4 : wr.frozen? ⟨g, q, none⟩ = false := World.rowIs.frozen Hws.out.ahd q
      have hqI : (q : Int) < (adj.length : Int) := by omega
      have Hnext : Hid (WS w (wr.setCell ⟨g, q, none⟩ (.int .i64 (-2))) bp g adj.length (.slice Ac src.length cc) src (fun x => if (x : Int) ∈ src.take (k + 1) then -2 else -1)) := Lib.hid ((Hws.out.set q (-2)).congr fun x _ => by
          have ht : src.take (k + 1) = src.take k ++ [(q : Int)] := by
            rw [List.take_succ_eq_append_getElem hlt, ← hq]
            simp [List.getD, hlt]
          show (if x = q then (-2 : Int) else if (x : Int) ∈ src.take k then -2 else -1) = if (x : Int) ∈ src.take (k + 1) then -2 else -1
          rw [ht]
          by_cases e : x = q
          · rw [if_pos e, if_pos (by rw [e]; simp)]
          · rw [if_neg e]
            by_cases e2 : (x : Int) ∈ src.take k
            · rw [if_pos e2, if_pos (List.mem_append.2 (.inl e2))]
            · rw [if_neg e2, if_neg]
              rw [List.mem_append, List.mem_singleton, not_or]
              exact ⟨e2, by omega⟩)
      clear hck
      go_wp2
      go_roundw
      case rel => exact ⟨k + 1, by go_num, by omega, Hnext.out⟩
      case measure => simp [intOf]; omega
    · have hke : k = src.length := by omega
      subst hke
      have Hw0 : Hid (WS w wr bp g adj.length (.slice Ac src.length cc) (runS adj src 0).1 (runS adj src 0).2) := Lib.hid (Hws.out.congr fun x _ => by
        show _ = if (x : Int) ∈ src then (-2 : Int) else -1
        rw [List.take_length])
      clear Hws
      go_wp2
      clear g1
      go_loopw [8] (fun vi wx => ∃ (i : Nat) (cv : Value), vi = .int .i64 i ∧ i ≤ (runS adj src i).1.length ∧ WS w wx bp g adj.length cv (runS adj src i).1 (runS adj src i).2) (fun vi _ => adj.length - (intOf vi).toNat)
      case atStart => exact ⟨0, _, rfl, Nat.zero_le _, Hw0.out⟩
      case round =>
        clear Hw0
        obtain ⟨i, cv, rfl, hi, hws⟩ := hrel
        have Hws := Lib.hid hws
        obtain ⟨par, hbf⟩ := run_bfs Hd.out Hs.out i
        have Hbf := Lib.hid hbf
        have hlen := hbf.len
        obtain ⟨A1, c1, hcv, -⟩ := hws.row
        have g1 := Blk.cell hws.box 0
        subst hcv
        clear hws hbf
        have hlI : ((runS adj src i).1.length : Int) ≤ 4096 := by omega
        by_cases hlt : i < (runS adj src i).1.length
        · have hiI : (i : Int) < ((runS adj src i).1.length : Int) := by omega
          obtain ⟨adc, hAc, _, hcc⟩ : ∃ ad : Addr, A1 = some ad ∧ ad.block < wr.heap.size ∧ wr.cell? (ad.add i) = some (.int .i64 ((runS adj src i).1.getD i 0)) := by
            obtain ⟨A', c', e, _, hk'⟩ := Hws.out.row
            injection e with e1 e2 e3
            subst e1
            exact hk' i hlt
          subst hAc
          obtain ⟨p, hp, hpn⟩ : ∃ p : Nat, cAt (runS adj src i).1 i = (p : Int) ∧ p < adj.length := by
            have := Hbf.out.pt _ (cAt_mem hlt)
            exact ⟨(cAt (runS adj src i).1 i).toNat, by omega, by omega⟩
          rw [show (runS adj src i).1.getD i 0 = (p : Int) from hp] at hcc
          obtain ⟨ada, ua, hAa, haab, hcu, hru⟩ := Hcell.out p hpn
          subst hAa
          have g2 := (Hws.out.below.cell (p := ada.add p) (by rw [add_block]; exact haab)).trans hcu
          have harc : adj.getD p [] = arcsOf adj (runS adj src i).1 i := by unfold arcsOf; rw [hp, Int.toNat_natCast]
          rw [harc] at hru
          obtain ⟨Au, cu, rfl, hul, hcl⟩ := hru
          have hlm : ((arcsOf adj (runS adj src i).1 i).length : Int) ≤ 9223372036854775807 := by
            have h1 := hul.1
            have h2 := hul.2.1
            unfold maxLen at h2
            omega
          have hpI : (p : Int) < (adj.length : Int) := by omega
          have Hcl := Lib.hid hcl
          have Hp := Lib.hid hp
          have Hstep : Hid (runS adj src (i + 1) = innerS adj (runS adj src i) i (arcsOf adj (runS adj src i).1 i).length) := Lib.hid (by
            show stepS adj (runS adj src i) i = _
            unfold stepS
            rw [if_pos hlt])
          have Hin := Lib.hid (inner_bfs Hd.out par hlt Hbf.out)
          have Hsucc := Lib.hid (fun k (h : k < (arcsOf adj (runS adj src i).1 i).length) => inner_succ (st := runS adj src i) h)
          have Harcs := Lib.hid (fun k (h : k < (arcsOf adj (runS adj src i).1 i).length) => show ∃ q : Nat, (arcsOf adj (runS adj src i).1 i).getD k 0 = (q : Int) ∧ q < adj.length by
            have := Hd.out.pt (cAt (runS adj src i).1 i).toNat ((arcsOf adj (runS adj src i).1 i).getD k 0) (by rw [show (arcsOf adj (runS adj src i).1 i).getD k 0 = (arcsOf adj (runS adj src i).1 i)[k] by simp [List.getD, h]]; exact List.getElem_mem h)
            exact ⟨((arcsOf adj (runS adj src i).1 i).getD k 0).toNat, by omega, by omega⟩)
          have Hst0 : Hid (WS w wr bp g adj.length (.slice (some adc) (runS adj src i).1.length c1) (innerS adj (runS adj src i) i 0).1 (innerS adj (runS adj src i) i 0).2) := Hws
          generalize arcsOf adj (runS adj src i).1 i = arcs at *
          clear hcu hcl Hbf hp
          go_wp2
          go_loopw [47] (fun vi wx => ∃ (k : Nat) (cv : Value), vi = .int .i64 k ∧ k ≤ arcs.length ∧ WS w wx bp g adj.length cv (innerS adj (runS adj src i) i k).1 (innerS adj (runS adj src i) i k).2) (fun vi _ => arcs.length - (intOf vi).toNat)
          case atStart => exact ⟨0, _, rfl, Nat.zero_le _, Hst0.out⟩
          case round =>
            clear Hst0
            obtain ⟨k, cv2, rfl, hk, hw2⟩ := hrel
            have Hw2 := Lib.hid hw2
            clear hw2
            obtain ⟨-, par2, hbf2⟩ := Hin.out k hk
            have hlen2 := hbf2.len
            have h1 := Blk.cell Hw2.out.box 0
            have h2 := Blk.cell Hw2.out.box 1
            have f1 := Blk.frozen Hw2.out.box 0
            by_cases hlt2 : k < arcs.length
            · have hkI : (k : Int) < (arcs.length : Int) := by omega
              obtain ⟨ad2, hA2, hab2, hck⟩ := Hcl.out k hlt2
              subst hA2
              obtain ⟨q, hq, hqn⟩ := Harcs.out k hlt2
              rw [hq] at hck
              have h3 := (Hw2.out.below.cell (p := ad2.add k) (by rw [add_block]; exact hab2)).trans hck
              have h4 := NumsK.at Hw2.out.ahd hqn
              have hfz : wr.frozen? ⟨g, q, none⟩ = false := World.rowIs.frozen Hw2.out.ahd q
              have hqI : (q : Int) < (adj.length : Int) := by omega
              have Hsu : Hid (innerS adj (runS adj src i) i (k + 1) = visitS (p : Int) (innerS adj (runS adj src i) i k) (q : Int)) := Lib.hid (by rw [Hsucc.out k hlt2, Hp.out, hq])
              clear hck hbf2 hq
              generalize innerS adj (runS adj src i) i k = st at *
              obtain ⟨A3, c3, hcv, -⟩ := Hw2.out.row
              subst hcv
              by_cases hx : st.2 q = -1
              · have Hx := Lib.hid hx
                rw [hx] at h4
                have Hw3 := Lib.hid (Hw2.out.set q (p : Int))
                have Hw4 := Lib.hid (Hw3.out.up ((Below.refl _ (wr.setCell ⟨g, q, none⟩ (.int .i64 (p : Int)))).alloc (Nat.le_refl _) (.cells #[.int .i64 (q : Int)] 3)))
                have k1 := Blk.cell Hw3.out.box 0
                have hbg : bp ≠ g := fun e => Hw2.out.n3 e.symm
                have Hcell := Lib.hid (cellN (wr.setCell ⟨g, q, none⟩ (.int .i64 (p : Int))) wr.heap.size (by simp [World.setCell]) (.int .i64 (q : Int)) 3)
                have Hbig : Hid (w.heap.size + 1 ≤ ((wr.setCell ⟨g, q, none⟩ (.int .i64 (p : Int))).alloc (.cells #[.int .i64 (q : Int)] 3)).heap.size) := Lib.hid (by
                  have := Hw4.out.below.size
                  have h5 := Blk.lt Hw4.out.box
                  have h6 := Hw4.out.lb
                  omega)
                have Hul : Hid ((ints st.1).length ≤ 4194304) := Lib.hid (by rw [ints_length]; omega)
                clear hx Hw3
                go_wp2_with (at_builtin; go_loud (refine wpList_append_cell rfl _ _ 25 3 (.int .i64 0) 8 rfl Try.underlying25 info3 rfl (w.heap.size + 1) (.slice A3 st.1.length c3) (.int .i64 (q : Int)) (ints st.1) rfl Hw4.out.own wr.heap.size rfl Hcell.out rfl Hul.out (by omega) Hbig.out ?_))
                intro v7 w7 hown7 hgr7 hl7
                have Hw8 := Lib.hid (Hw4.out.push hown7 hgr7 (by simpa using hl7))
                obtain ⟨A7, L7, c7, rfl⟩ : ∃ A L c, v7 = .slice A L c := by
                  obtain ⟨A, c, e, _⟩ := Hw8.out.row
                  exact ⟨A, _, c, e⟩
                have hres := Hw4.out
                have m1 : w7.cell? ⟨bp, 0, none⟩ = some (.slice A3 st.1.length c3) := (World.cell?_of_block (hgr7.block bp (Blk.lt hres.box) hres.n2)).trans (Blk.cell hres.box 0)
                have m2 : w7.frozen? ⟨bp, 0, none⟩ = false := Blk.frozen (hres.box.grown hgr7 hres.n2) 0
                have Hsu2 : Hid (innerS adj (runS adj src i) i (k + 1) = (st.1 ++ [(q : Int)], updI st.2 q p)) := Lib.hid (by
                  rw [Hsu.out]
                  unfold visitS
                  rw [Int.toNat_natCast, if_pos Hx.out])
                clear hown7 hgr7 hl7 hres
                go_wp2
                go_roundw
                case rel => exact ⟨k + 1, _, by go_num, by omega, by rw [Hsu2.out]; exact Hw8.out⟩
                case measure => simp [intOf]; omega
              · have Hsame : Hid (innerS adj (runS adj src i) i (k + 1) = st) := Lib.hid (by
                  rw [Hsu.out]
                  unfold visitS
                  rw [Int.toNat_natCast, if_neg hx])
                generalize st.2 q = y at *
                go_wp2
                go_roundw
                case rel => exact ⟨k + 1, _, by go_num, by omega, by rw [Hsame.out]; exact Hw2.out⟩
                case measure => simp [intOf]; omega
            · have hke : k = arcs.length := by omega
              subst hke
              have Hw9 : Hid (WS w wr bp g adj.length cv2 (runS adj src (i + 1)).1 (runS adj src (i + 1)).2) := Lib.hid (by rw [Hstep.out]; exact Hw2.out)
              have hi9 : i + 1 ≤ (runS adj src (i + 1)).1.length := by
                obtain ⟨⟨rest, hr⟩, _⟩ := Hin.out arcs.length (Nat.le_refl _)
                rw [Hstep.out, hr, List.length_append]
                omega
              go_wp2
              go_roundw
              case rel => exact ⟨i + 1, _, by go_num, hi9, Hw9.out⟩
              case measure => simp [intOf]; omega
        · have hie : i = (runS adj src i).1.length := by omega
          have hfin : finS adj src = runS adj src i := run_stop (Nat.le_of_eq hie.symm) adj.length (by omega)
          have Hfin := Lib.hid hfin
          have g2 := Blk.cell Hws.out.box 1
          have h1 := Blk.cell Hws.out.res 0
          have h2 := Blk.cell Hws.out.res 1
          have f1 := Blk.frozen Hws.out.res 0
          have f2 := Blk.frozen Hws.out.res 1
          have hiI : ¬ ((i : Int) < ((runS adj src i).1.length : Int)) := by omega
          have Hrow := Lib.hid Hws.out.row
          clear hfin hie
          generalize runS adj src i = st at *
          obtain ⟨L, hL⟩ : ∃ L, st.1.length = L := ⟨_, rfl⟩
          have HL := Lib.hid hL
          rw [hL] at g1 hiI hlt
          have hboxc : Hid (Blk wr bp 52 #[.slice A1 L c1, .slice (some ⟨g, 0, none⟩) adj.length adj.length]) := Lib.hid (by have := Hws.out.box; rwa [hL] at this)
          clear hL
          go_wp2
          have hfin := (Hws.out.res.set_ 0 (.slice A1 L c1)).set_ 1 (.slice (some ⟨g, 0, none⟩) adj.length adj.length)
          have hbw : Below w.heap.size w ((wr.setCell ⟨w.heap.size, 0, none⟩ (.slice A1 L c1)).setCell ⟨w.heap.size, 1, none⟩ (.slice (some ⟨g, 0, none⟩) adj.length adj.length)) :=
            (Hws.out.below.setCell (p := ⟨w.heap.size, 0, none⟩) (Nat.le_refl _) _).setCell (p := ⟨w.heap.size, 1, none⟩) (Nat.le_refl _) _
          have hgr : wr.grownBy ((wr.setCell ⟨w.heap.size, 0, none⟩ (.slice A1 L c1)).setCell ⟨w.heap.size, 1, none⟩ (.slice (some ⟨g, 0, none⟩) adj.length adj.length)) (some w.heap.size) :=
            only_trans (grown_set wr w.heap.size 0 _) (grown_set _ w.heap.size 1 _)
          generalize (wr.setCell ⟨w.heap.size, 0, none⟩ (.slice A1 L c1)).setCell ⟨w.heap.size, 1, none⟩ (.slice (some ⟨g, 0, none⟩) adj.length adj.length) = w9 at *
          have k1 : w9.cell? ⟨w.heap.size, 0, none⟩ = some (.slice A1 L c1) := hfin.cell 0
          have k2 : w9.cell? ⟨w.heap.size, 1, none⟩ = some (.slice (some ⟨g, 0, none⟩) adj.length adj.length) := hfin.cell 1
          have hown9 := Hws.out.own.kept hgr (.inr fun e => by
            have := (Hws.out.own.lt _ e).1
            omega)
          have hah9 : NumsK w9 g adj.length st.2 := World.rowIs.of_block Hws.out.ahd (hgr.block g (World.rowIs.lt Hws.out.ahd) (fun e => by injection e with e; omega))
          refine bodyPost_ret (v := .agg #[.slice A1 L c1, .slice (some ⟨g, 0, none⟩) adj.length adj.length]) ?_ rfl ?_
          · simp [results, Try.results35, go_sem, k1, k2]
          · refine ⟨.slice A1 L c1, g, rfl, ?_, ?_, hbw⟩
            · rw [Hfin.out]
              have := Row.of_own (zs := st.1) hown9 (ints_length _)
              rwa [HL.out] at this
            · rw [Hfin.out]
              exact hah9

end Wp
end Go.Proofs.Ytmgfhehnehcmpaa
