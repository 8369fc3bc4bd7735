/- A list's copy; what is taken off a column: the library's Clone and the program's takeOff, walked. -/
import Derived.Test.YtmnhpccdhefddaaDoorLMem
import Derived.Test.YtmnhpccdhefddaaDoorLTakeP
import Derived.Test.YtmnhpccdhefddaaDoorMA
import Derived.Maps.OwnOps
import Derived.StillTailTactics
import Derived.IntWalk
import Derived.Lib.SliceRun
namespace Go.Proofs.YtmnhpccdhefddaaDoor
open Go.RowKit
namespace Wp

set_option maxHeartbeats 4000000 in
set_option maxRecDepth 100000 in
/-- A copy, in a block of its own. -/
theorem clone_any (v : Value) (zs : List Int) (w : World) (hr : Row w w.heap.size v zs) (hl : zs.length ≤ 1048576) :
    Calls Tryd.prog 37 #[v] w fun e w' => ∃ u, e = .returned u ∧ w'.ownsRow w.heap.size 3 1 u zs.length (ints zs) ∧ Below w.heap.size w w' := by
  have Hr := Lib.hid hr
  obtain ⟨A, c, rfl, hn, hk⟩ := hr
  rcases A with _ | ad
  · have hz : zs = [] := by
      cases zs with
      | nil => rfl
      | cons y r =>
        obtain ⟨_, hA, _⟩ := hk 0 (by simp)
        cases hA
    subst hz
    obtain rfl := hn.2.2 rfl
    clear hk hn
    have q26 : ∀ (w : World) (a : Option Addr) (n c n' c' : Nat), (binOp .eql 26 (.slice a n c) (.slice none n' c')).run Tryd.prog w = .ok (.bool a.isNone) w := fun w a n c n' c' => Lib.run_eql_slice_nil w _ _ a n c n' c' Tryd.underlying26
    go_enter Tryd.func37, Tryd.ntmps37
    go_wp2
    go_ret
    exact ⟨_, rfl, World.ownsRow_nil _ _ _ _, Below.refl _ _⟩
  · have Hown : Hid ((w.alloc (.cells #[] 3)).ownsRow w.heap.size 3 1 (.slice (some ⟨w.heap.size, 0, none⟩) 0 0) ([] : List Int).length (ints [])) :=
      World.ownsRow_lit w #[] 0 (Nat.le_refl _) (by unfold maxLen; omega) rfl
    have hl' : (zs.length : Int) ≤ 1048576 := by omega
    clear hk hn
    have q26 : ∀ (w : World) (a : Option Addr) (n c n' c' : Nat), (binOp .eql 26 (.slice a n c) (.slice none n' c')).run Tryd.prog w = .ok (.bool a.isNone) w := fun w a n c n' c' => Lib.run_eql_slice_nil w _ _ a n c n' c' Tryd.underlying26
    go_enter Tryd.func37, Tryd.ntmps37
    go_wp2_with (at_builtin; refine wpList_append_row rfl _ _ rfl w.heap.size _ _ _ [] zs rfl rfl Hown.out (Hr.out.upA _) (by simp) (by omega) (by simp) ?_)
    intro v2 w2 hown2 hg2
    have hb2 : Below w.heap.size w w2 := ((Below.refl _ w).alloc (Nat.le_refl _) _).grown hg2 (by simp) (fun i hi => (Hown.out.lt i hi).1)
    go_wp2
    go_ret
    exact ⟨_, rfl, hown2, hb2⟩

theorem isMap_of {w : World} {b n : Nat} {D : DataW Unit} (h : w.ownsMap Tryd.prog 3 (plainElem Tryd.prog 3) b n D) : Maps.IsMap D := by
  obtain ⟨_, _, _, _, _, hD⟩ := h
  exact ⟨_, hD⟩
/-- What the call gives: what is left, in a row of the call's own, and by which numbers, in a map of its own. -/
def Takes (w : World) (left : List Int) (f : Nat → Int) (e : Ending) (w' : World) : Prop :=
  ∃ u b, e = .returned (.tuple #[u, .map (some b)]) ∧ w'.ownsRow w.heap.size 3 1 u left.length (ints left) ∧ w.heap.size ≤ b ∧ MapAt w' b 64 f ∧ Below w.heap.size w w'

theorem own_at {w : World} {B : Nat} {u : Value} {zs : List Int} (h : w.ownsRow B 3 1 u zs.length (ints zs)) (h0 : 0 < zs.length) : ∃ g c, u = .slice (some ⟨g, 0, none⟩) zs.length c ∧ B ≤ g := own_form h h0
theorem ints_get {zs : List Int} {j : Nat} (h : j < zs.length) : (ints zs)[j]? = some (.int .i64 (zs.getD j 0)) := by
  simp [ints, List.getD, h]
theorem ints_set (zs : List Int) (j : Nat) (x : Int) : (ints zs).set j (.int .i64 x) = ints (zs.set j x) := by
  unfold ints
  rw [List.map_set]

set_option maxHeartbeats 8000000 in
set_option maxRecDepth 100000 in
theorem take_any (p : Int) (R : Nat) (v vc : Value) (ls : List Line) (col : List Int) (w : World) (hp1 : 2 ≤ p) (hp2 : p ≤ 2147483647) (hls : LinesAt w w.heap.size v ls) (hE : Ech p R ls) (hcol : Row w w.heap.size vc col) (hc : InR p R col) (hR : R ≤ 64) (hn : ls.length ≤ 64) (hpl : ∀ l ∈ ls, l.place < 64) :
    Calls Tryd.prog 26 #[.int .i64 p, v, vc] w (Takes w (takeT p ls col).1 (takeT p ls col).2) := by
  have Hls := Lib.hid hls
  have HE := Lib.hid hE
  have Hc := Lib.hid hc
  have Hpl := Lib.hid hpl
  have Hmod := Lib.hid (fun a w => mod_yes a p w ⟨by omega, hp2⟩)
  obtain ⟨A, c, rfl, _, hcells⟩ := hls
  have Hcells := Lib.hid hcells
  have hn' : (ls.length : Int) ≤ 64 := by omega
  clear hcells
  have hmm := @run_makeMap Tryd.prog
  go_enter Tryd.func26, Tryd.ntmps26
  go_wp2_with fail
  refine (clone_any vc col w hcol (by rw [hc.1]; omega)).mono ?_
  rintro e w1 ⟨u, rfl, hown1, hb1⟩
  have Hown1 := Lib.hid hown1
  have Hb1 := Lib.hid hb1
  clear hcol hE hc hown1 hb1 hpl
  obtain ⟨mb, hmb⟩ : ∃ mb, mb = w1.heap.size := ⟨_, rfl⟩
  have Hmap0 : Hid (MapAt (w1.alloc (.map #[] 0)) mb 0 (fun _ => 0)) := by
    show MapAt _ _ _ _
    rw [hmb]
    exact ⟨_, World.ownsMap_made w1 Tryd.prog 3 _, reads_empty⟩
  have Hown0 : Hid ((w1.alloc (.map #[] 0)).ownsRow w.heap.size 3 1 u R (ints col)) := by
    show World.ownsRow _ _ _ _ _ _ _
    rw [← Hc.out.1]
    exact Hown1.out.alloc _
  have Hmbw : Hid (w.heap.size ≤ mb) := by
    show _ ≤ _
    rw [hmb]; exact Hb1.out.size
  have Hb0 : Hid (Below w.heap.size w (w1.alloc (.map #[] 0))) := Hb1.out.alloc Hb1.out.size _
  go_wp2
  rw [← hmb]
  have Hmb := Lib.hid hmb
  clear hmb hmm
  go_loopw [19] (fun vk wr => ∃ k : Nat, vk = .int .i64 k ∧ k ≤ ls.length ∧ wr.ownsRow w.heap.size 3 1 u R (ints (takeN p ls col k).1) ∧ MapAt wr mb k (takeN p ls col k).2 ∧ Below w.heap.size w wr) (fun vk _ => ls.length - (intOf vk).toNat)
  case atStart => exact ⟨0, rfl, Nat.zero_le _, Hown0.out, Hmap0.out, Hb0.out⟩
  case round =>
    obtain ⟨k, rfl, hk, hown, hmap, hbr⟩ := hrel
    clear Hown0 Hmap0 Hb0
    have Hbr := Lib.hid hbr
    have Hmap := Lib.hid hmap
    have Hown := Lib.hid hown
    clear hbr hmap hown
    by_cases hlt : k < ls.length
    · obtain ⟨ad, u', b', hA, hab, ⟨q0, q1, q2, q3, q4⟩, hrow', hb'lt, hmap'⟩ := Hcells.out k hlt
      subst hA
      have HT := (takeN_taken (by omega) HE.out Hc.out (k := k)).row
      have hok := ech_ok HE.out _ (List.getElem_mem hlt)
      have hsucc := takeN_succ (p := p) (col := col) hlt
      generalize hs : takeN p ls col k = s at *
      have hplk := Hpl.out _ (List.getElem_mem hlt)
      generalize hl : ls[k] = l at *
      have Hsucc := Lib.hid hsucc
      have Hok := Lib.hid hok
      have HTr := Lib.hid HT
      have Hrow' := Lib.hid hrow'
      clear hsucc hok HT hrow' hs hl hmap' Hcells HE
      obtain ⟨lf, f⟩ := s
      obtain ⟨pl, ll, ld, iv, bf⟩ := l
      simp only at q0 q1 q2 q3 q4 hplk
      have hld : ld < R := Hok.out.lt
      have hx := HTr.out.get (by omega) ld
      have hiv := Hok.out.invr
      have hll := Hok.out.row.1
      obtain ⟨A', c', hu', _, hrc⟩ := Hrow'.out
      have Hrc := Lib.hid hrc
      simp only at hll
      rw [hll] at hu'
      subst hu'
      have Hll := Lib.hid hll
      clear hrc hll
      simp only at hx hiv
      obtain ⟨g, cu, rfl, hgB⟩ := own_form Hown.out (by omega)
      have hcl : wr.cell? ⟨g, ld, none⟩ = some (.int .i64 (lf.getD ld 0)) := by
        rw [Hown.out.cellAt ld (by omega), ints_get (by rw [HTr.out.1]; exact hld)]
      obtain ⟨x, hxe⟩ : ∃ x, x = lf.getD ld 0 := ⟨_, rfl⟩
      rw [← hxe] at hcl hx
      have hmul := wrap_mul_in hp2 hx.1 hx.2 hiv.1 hiv.2
      have hmr := mul_in hp2 hx.1 hx.2 hiv.1 hiv.2
      have e0 := (Hbr.out.cell (p := ad.add (k * 5)) (by rw [add_block]; exact hab)).trans q0
      have e1 := (Hbr.out.cell (p := ⟨(ad.add (k * 5)).block, (ad.add (k * 5)).off + 1, none⟩) (by show (ad.add (k * 5)).block < _; rw [add_block]; exact hab)).trans q1
      have e2 := (Hbr.out.cell (p := ⟨(ad.add (k * 5)).block, (ad.add (k * 5)).off + 2, none⟩) (by show (ad.add (k * 5)).block < _; rw [add_block]; exact hab)).trans q2
      have e3 := (Hbr.out.cell (p := ⟨(ad.add (k * 5)).block, (ad.add (k * 5)).off + 3, none⟩) (by show (ad.add (k * 5)).block < _; rw [add_block]; exact hab)).trans q3
      have e4 := (Hbr.out.cell (p := ⟨(ad.add (k * 5)).block, (ad.add (k * 5)).off + 4, none⟩) (by show (ad.add (k * 5)).block < _; rw [add_block]; exact hab)).trans q4
      clear q0 q1 q2 q3 q4
      have Hnew := Lib.hid (Blk.new wr 43 #[.int .i64 (pl : Int), .slice A' R c', .int .i64 (ld : Int), .int .i64 iv, .map (some b')])
      have HownW := Lib.hid (Hown.out.alloc (.cells #[.int .i64 (pl : Int), .slice A' R c', .int .i64 (ld : Int), .int .i64 iv, .map (some b')] 43))
      have HmapW := Lib.hid (Hmap.out.kept (World.grownBy_alloc wr (.cells #[.int .i64 (pl : Int), .slice A' R c', .int .i64 (ld : Int), .int .i64 iv, .map (some b')] 43) none) (by simp))
      have HbrW := Lib.hid (Hbr.out.alloc Hbr.out.size (.cells #[.int .i64 (pl : Int), .slice A' R c', .int .i64 (ld : Int), .int .i64 iv, .map (some b')] 43))
      have Hgx : Hid (g ≠ wr.heap.size ∧ mb ≠ wr.heap.size ∧ w.heap.size ≤ wr.heap.size) := by
        have h1 := (Hown.out.lt g rfl).2
        have h2 := Hmap.out.lt
        exact ⟨by omega, by omega, Hbr.out.size⟩
      clear hcl
      obtain ⟨t, ht⟩ : ∃ t, t = x * iv % p := ⟨_, rfl⟩
      have htr := em_lt (a := x * iv) (p := p) (by omega)
      have Ht := Lib.hid (fun w => Hmod.out (x * iv) w)
      rw [← ht] at htr Ht
      have Hte : Hid ((lf.getD ld 0 * iv) % p = t) := by
        show _ = _
        rw [← hxe, ht]
      have hwr : IntKind.i64.wrap (x * iv) = x * iv := by
        rw [IntKind.wrap_i64]
        omega
      have Hxe := Lib.hid hxe
      clear ht hxe hmul Hown Hmap
      go_wp2
      generalize wr.alloc (.cells #[.int .i64 (pl : Int), .slice A' R c', .int .i64 (ld : Int), .int .i64 iv, .map (some b')] 43) = W at *
      have hcl : W.cell? ⟨g, ld, none⟩ = some (.int .i64 x) := by
        rw [HownW.out.cellAt ld (by omega), ints_get (by rw [HTr.out.1]; exact hld), ← Hxe.out]
      generalize wr.heap.size = bx at *
      have d2 := Hnew.out.cell 2
      have d3 := Hnew.out.cell 3
      simp only [List.getElem?_toArray, List.getElem?_cons_zero, List.getElem?_cons_succ] at d2 d3
      have hld' : (ld : Int) < (R : Int) := by omega
      go_quiet ((go_at_call 29; exact Calls.quiet_of_same (Ht.out _)))
      have HownD : Hid ((W.drewN nq).ownsRow w.heap.size 3 1 (.slice (some ⟨g, 0, none⟩) R cu) R (ints lf)) := HownW
      have HmapD : Hid (MapAt (W.drewN nq) mb k f) := HmapW
      have HbrD : Hid (Below w.heap.size w (W.drewN nq)) := Lib.hid (below_drewN HbrW.out nq)
      have HnewD : Hid (Blk (W.drewN nq) bx 43 #[.int .i64 (pl : Int), .slice A' R c', .int .i64 (ld : Int), .int .i64 iv, .map (some b')]) := Hnew
      clear hcl d2 d3 HownW HmapW HbrW Hnew
      generalize W.drewN nq = W2 at *
      by_cases h0 : t = 0
      · subst h0
        have Hs2 := Lib.hid (Hsucc.out.trans (stepT_none Hte.out))
        go_wp2
        go_roundw
        case rel =>
          refine ⟨k + 1, by go_num, by omega, ?_, ?_, HbrD.out⟩
          · rw [Hs2.out]; exact HownD.out
          · rw [Hs2.out]; exact HmapD.out.mono (Nat.le_succ k)
        case measure => simp [intOf]; omega
      · have ht0 : (t == 0) = false := by rw [beq_eq_false_iff_ne]; exact h0
        have d0 := HnewD.out.cell 0
        simp only [List.getElem?_toArray, List.getElem?_cons_zero] at d0
        have d2 := HnewD.out.cell 2
        simp only [List.getElem?_toArray, List.getElem?_cons_zero, List.getElem?_cons_succ] at d2
        obtain ⟨D, hD1, hD2⟩ := HmapD.out
        have HD1 := Lib.hid hD1
        have HD2 := Lib.hid hD2
        have Hne := Lib.hid (HmapD.out.not_row HownD.out)
        have Hwfx := Lib.hid (WalkArith.wf_i64 (n := (pl : Int)) (by omega))
        have Hwft := Lib.hid (WalkArith.wf_i64 (n := t) (by omega))
        have D2 := Lib.hid d2
        clear hD1 hD2 d2
        go_wp2_with (at_mapUpdate; refine wpList_mapUpdate_own _ rfl _ _ _ 41 rfl 3 3 key_law Tryd.underlying41 _ mb k _ rfl HD1.out (by unfold maxLen; omega) _ _ _ rfl rfl (Maps.keyOf_int_mk Tryd.underlying3 Hwfx.out) _ [] (plainElem_int Tryd.underlying3 Hwft.out) ?_)
        intro w3 hmap3 hgr3
        have Hmap3 : Hid (MapAt w3 mb (k + 1) (upd f pl t)) := ⟨_, hmap3, reads_put (isMap_of HD1.out) HD2.out pl h0 trivial⟩
        have Hown3 := Lib.hid (HownD.out.kept hgr3 (.inr (fun e => Hne.out e.symm)))
        have Hnew3 := Lib.hid (HnewD.out.grown hgr3 (by have := Hgx.out.2.1; intro e; injection e with e; omega))
        have Hbr3 := Lib.hid (HbrD.out.grown hgr3 HbrD.out.size (fun i hi => by injection hi with hi; rw [← hi]; exact Hmbw.out))
        have d2 := Hnew3.out.cell 2
        simp only [List.getElem?_toArray, List.getElem?_cons_zero, List.getElem?_cons_succ] at d2
        clear hmap3 hgr3 HownD HmapD HnewD HbrD HD1 HD2 D2 d0
        have Hs2 := Lib.hid (Hsucc.out.trans (stepT_some Hte.out h0))
        simp only at Hs2
        have Hrow0 : Hid (w3.ownsRow w.heap.size 3 1 (.slice (some ⟨g, 0, none⟩) R cu) R (ints (subU p lf ⟨pl, ll, ld, iv, bf⟩ t ld))) := by
          show World.ownsRow _ _ _ _ _ _ _
          rw [show subU p lf ⟨pl, ll, ld, iv, bf⟩ t ld = lf from subU_start (l := ⟨pl, ll, ld, iv, bf⟩)]
          exact Hown3.out
        clear Hown3
        go_wp2
        go_loopw [13] (fun vr wq => ∃ r : Nat, vr = .int .i64 r ∧ ld ≤ r ∧ r ≤ R ∧ wq.ownsRow w.heap.size 3 1 (.slice (some ⟨g, 0, none⟩) R cu) R (ints (subU p lf ⟨pl, ll, ld, iv, bf⟩ t r)) ∧ MapAt wq mb (k + 1) (upd f pl t) ∧
          Blk wq bx 43 #[.int .i64 (pl : Int), .slice A' R c', .int .i64 (ld : Int), .int .i64 iv, .map (some b')] ∧ Below w.heap.size w wq) (fun vr _ => R - (intOf vr).toNat)
        case atStart => exact ⟨ld, rfl, Nat.le_refl _, Nat.le_of_lt hld, Hrow0.out, Hmap3.out, Hnew3.out, Hbr3.out⟩
        case round =>
          clear Hrow0 Hmap3 Hnew3 Hbr3 d2
          obtain ⟨r, rfl, hr1, hr2, hown4, hmap4, hnew4, hbr4⟩ := hrel
          have Hown4 := Lib.hid hown4
          have Hmap4 := Lib.hid hmap4
          have Hnew4 := Lib.hid hnew4
          have Hbr4 := Lib.hid hbr4
          clear hown4 hmap4 hnew4 hbr4
          by_cases hrR : r < R
          · have hrlf : r < lf.length := by rw [HTr.out.1]; exact hrR
            obtain ⟨ad', hA', hab', hc'⟩ := Hrc.out r (by rw [Hll.out]; exact hrR)
            subst hA'
            have hcz := (Hbr4.out.cell (p := ad'.add r) (by rw [add_block]; exact hab')).trans hc'
            have hcy : wr.cell? ⟨g, r, none⟩ = some (.int .i64 (lf.getD r 0)) := by
              rw [Hown4.out.cellAt r (by omega), ints_get (by rw [subU_length]; exact hrlf), subU_at hrlf]
            have hfz : wr.frozen? ⟨g, r, none⟩ = false := Hown4.out.frozenAt r
            have hy := HTr.out.get (by omega) r
            have hz := Hok.out.row.get (by omega) r
            simp only at hz
            have Hset := Lib.hid (subU_step (p := p) (left := lf) (l := ⟨pl, ll, ld, iv, bf⟩) (t := t) (r := r) hr1)
            simp only at Hset
            generalize lf.getD r 0 = y at *
            generalize ll.getD r 0 = z at *
            have hmz := mul_in hp2 htr.1 htr.2 hz.1 hz.2
            have hw1 : IntKind.i64.wrap (t * z) = t * z := by rw [IntKind.wrap_i64]; omega
            have hw2 : IntKind.i64.wrap (y - t * z) = y - t * z := by rw [IntKind.wrap_i64]; omega
            have Hq := Lib.hid (fun w => Hmod.out (y - t * z) w)
            generalize (y - t * z) % p = q at *
            have d1 := Hnew4.out.cell 1
            simp only [List.getElem?_toArray, List.getElem?_cons_zero, List.getElem?_cons_succ] at d1
            have hrR' : (r : Int) < (R : Int) := by omega
            have Hst := Lib.hid (Hown4.out.stored r (.int .i64 q))
            have HmapE := Lib.hid (Hmap4.out.kept Hst.out.2 (by have := Hmap4.out.not_row Hown4.out; exact this))
            have HnewE := Lib.hid (Hnew4.out.grown Hst.out.2 (by have := Hgx.out.1; intro e; injection e with e; omega))
            have HbrE := Lib.hid (Hbr4.out.setCell (p := ⟨g, r, none⟩) hgB (.int .i64 q))
            rw [ints_set, Hset.out] at Hst
            clear Hmap4 Hnew4 Hbr4 Hown4 Hset hc' hmz
            go_wp2
            refine wp_region_still_tail 17 (by kernel_rfl) (by kernel_rfl) ?_
            simp only [List.take_succ_cons, List.take_zero, List.drop_succ_cons, List.drop_zero]
            repeat still_step
            still_call (Hq.out _)
            repeat still_step
            try refine wpStill_nil ?_
            change wpList _ _ _ _ _ wr.drew
            go_wp2
            go_roundw
            case rel => exact ⟨r + 1, by go_num, by omega, by omega, Hst.out.1, HmapE.out, HnewE.out, HbrE.out.drew⟩
            case measure => simp [intOf]; omega
          · have hre : r = R := by omega
            subst hre
            go_wp2
            go_roundw
            case rel =>
              refine ⟨k + 1, by go_num, by omega, ?_, ?_, Hbr4.out⟩
              · rw [Hs2.out, HTr.out.1]; exact Hown4.out
              · rw [Hs2.out]; exact Hmap4.out
            case measure => simp [intOf]; omega
    · have hke : k = ls.length := by omega
      subst hke
      have HT := Lib.hid (takeN_taken (by omega) HE.out Hc.out (k := ls.length)).row
      rw [takeN_all] at Hown Hmap HT
      go_wp2
      go_ret2
      refine ⟨u, mb, rfl, ?_, Hmbw.out, Hmap.out.mono hn, Hbr.out⟩
      rw [HT.out.1]
      exact Hown.out

end Wp
end Go.Proofs.YtmnhpccdhefddaaDoor
