/- The lines of some columns: the program's lines, walked. -/
import Derived.Test.YtmnhpccdhefddaaDoorLTake
import Derived.Test.YtmnhpccdhefddaaDoorLLead
import Derived.Test.YtmnhpccdhefddaaDoorMInvN
import Derived.Maps.AppendAt
namespace Go.Proofs.YtmnhpccdhefddaaDoor
open Go.RowKit
namespace Wp

/-! ### Modulo a prime, as the columns take it -/
theorem inv_ok {p : Int} (h : prB p = true) : ∀ x, 0 < x → x < p → p ∣ x * invI x p - 1 ∧ 0 ≤ invI x p ∧ invI x p < p := by
  intro x h0 h1
  obtain ⟨h2, hM, hpr⟩ := prB_iff.1 h
  obtain ⟨P, rfl⟩ : ∃ P : Nat, p = P := ⟨p.toNat, by omega⟩
  obtain ⟨X, rfl⟩ : ∃ X : Nat, x = X := ⟨x.toNat, by omega⟩
  rw [Int.toNat_natCast] at hpr
  have hx : (X : Int) % (P : Int) = X := Int.emod_eq_of_lt (by omega) (by omega)
  obtain ⟨_, e⟩ := inv_at h (by omega) (by omega) hx (by omega)
  rw [e]
  have hlt : X ^ (P - 2) % P < P := Nat.mod_lt _ (by omega)
  have e2 := inv_nat hpr (not_dvd (x := X) (by omega) (by omega))
  refine ⟨?_, by omega, by omega⟩
  generalize X ^ (P - 2) % P = y at *
  have e3 : ((y * X : Nat) : Int) % (P : Int) = 1 := by
    rw [← Int.natCast_emod, e2]
    rfl
  rw [Int.mul_comm]
  have := dvd_emod_sub (p := (P : Int)) ((y * X : Nat) : Int)
  rw [e3] at this
  simpa using this
theorem fld_ok {p : Int} (h : prB p = true) : Fld p := by
  intro c hc
  obtain ⟨h2, _, _⟩ := prB_iff.1 h
  have hb := em_lt (a := c) (p := p) (by omega)
  have hn : c % p ≠ 0 := fun e => hc (Int.dvd_of_emod_eq_zero e)
  obtain ⟨h3, _⟩ := inv_ok h (c % p) (by omega) hb.2
  refine ⟨invI (c % p) p, ?_⟩
  have h4 := Int.dvd_trans (dvd_emod_sub (p := p) c) (Int.dvd_mul_right _ (invI (c % p) p))
  have h5 := Int.dvd_add h3 h4
  rwa [show c % p * invI (c % p) p - 1 + (c - c % p) * invI (c % p) p = c * invI (c % p) p - 1 by rw [Int.sub_mul]; omega] at h5
theorem inv_is (a p i : Int) (b : Bool) (h1 : invI a p = i) (h2 : invB a p = b) (w : World) (hM : Met w) : Calls Tryd.prog 34 #[.int .i64 a, .int .i64 p] w (Gets w (.tuple #[.int .i64 i, .bool b])) := by
  subst h1 h2
  exact inv_any a p w hM

/-! ### One line more -/
theorem infoLine : (Tryd.prog.info? 43).map (fun i => (i.zero, i.size, i.bytes)) = some (some (.agg #[.int .i64 0, .slice none 0 0, .int .i64 0, .int .i64 0, .map none]), 5, 56) := by kernel_rfl

set_option maxRecDepth 100000 in
/-- 'append(v, l)': v the call's own lines, l one more, of a row and a map of the call's own. -/
theorem wpList_append_line {w : World} {ops : Array Oper} {rest : List Oper} {o : Oper} {a : Act} {Q : Exit → Act → World → Prop} (hgd : o.guard = none) (s x : Operand)
    (ho : o.op = .call { callee := .builtin .append, args := #[s, x], argTypes := #[39, 39] })
    (base : Nat) (v : Value) (ns : List (Value × Nat × Line)) (u : Value) (b : Nat) (l : Line) (hs : a.eval s = v) (hown : OwnL w base v ns) (g : Nat) (hx : a.eval x = .slice (some ⟨g, 0, none⟩) 1 1) (hc : Blk w g 43 (lineCells u b l).toArray) (hu : u.oneCell' = true)
    (hrow : w.ownsRow base 3 1 u l.left.length (ints l.left)) (hmap : base ≤ b ∧ MapAt w b 64 l.by_) (hz : ns.length ≤ 64) (hb : base ≤ w.heap.size)
    (h : ∀ v' w', OwnL w' base v' (ns ++ [(u, b, l)]) → w.grownBy w' v.ownBlock → wpList Tryd.prog ops Q rest (a.put o.dst v') w') : wpList Tryd.prog ops Q (o :: rest) a w := by
  obtain ⟨i0, hi, hz0, hz1, hz2⟩ := info_parts infoLine
  refine wpList_append_own_at w hgd s x _ ho base 43 i0 (.agg #[.int .i64 0, .slice none 0 0, .int .i64 0, .int .i64 0, .map none]) 5 56 (by kernel_rfl) hi hz0 hz1 hz2 rfl (by decide) v ns.length (flatL ns) hs hown.own ⟨g, 0, none⟩ 1 1 (lineCells u b l) hx (by simp [lineCells]) ?_ ?_ ?_ ?_ hb ?_
  · intro j y hj
    have h0 := hc.cell j
    rw [show (lineCells u b l).toArray[j]? = some y by simpa using hj] at h0
    unfold Addr.add
    by_cases hj0 : j = 0
    · subst hj0
      simpa using h0
    · simpa [hj0] using h0
  · intro y hy
    simp only [lineCells, List.mem_cons, List.not_mem_nil, or_false] at hy
    rcases hy with rfl | rfl | rfl | rfl | rfl
    · rfl
    · exact hu
    · rfl
    · rfl
    · rfl
  · unfold maxLen; omega
  · have : (ns.length + 1) * 56 ≤ 65 * 56 := Nat.mul_le_mul (by omega) (Nat.le_refl _)
    omega
  · intro v' w' h1 h2 _ _
    refine h v' w' (hown.grow h2 ?_ fun x hx => ?_) h2
    · rw [flatL_append, List.length_append]
      simpa [flatL] using h1
    · rcases List.mem_append.1 hx with hx | hx
      · exact .inl hx
      · obtain rfl := List.mem_singleton.1 hx
        exact .inr ⟨hrow, hmap⟩

theorem own_le {w : World} {base base' : Nat} {e : TypeId} {size : Nat} {v : Value} {n : Nat} {xs : List Value} (h : w.ownsRow base e size v n xs) (hb : base' ≤ base) : w.ownsRow base' e size v n xs := by
  obtain ⟨h1, h2⟩ := h
  refine ⟨h1, ?_⟩
  rcases h2 with h2 | ⟨g, cap, cur, a1, a2, a3⟩
  · exact .inl h2
  · exact .inr ⟨g, cap, cur, a1, by omega, a3⟩
/-- A call gives lines. -/
def GivesL (w : World) (ls : List Line) (e : Ending) (w' : World) : Prop := ∃ v, e = .returned v ∧ LinesAt w' w'.heap.size v ls ∧ Below w.heap.size w w'

set_option maxHeartbeats 8000000 in
set_option maxRecDepth 100000 in
theorem lines_at (p : Int) (R : Nat) (v : Value) (cols : List (List Int)) (w : World) (hM : Met w) (hpr : prB p = true) (hr : Rows2 w w.heap.size v cols) (hc : ColsIn p R cols) (hR : R ≤ 64) (hn : cols.length ≤ 64) :
    Calls Tryd.prog 24 #[.int .i64 p, v] w (GivesL w (linesL p (fun x => invI x p) cols cols.length)) := by
  have Hr := Lib.hid hr
  have HM := Lib.hid hM
  have Hc := Lib.hid hc
  have HP := Lib.hid hpr
  obtain ⟨h2, h31, _⟩ := prB_iff.1 hpr
  obtain ⟨A, c, rfl, _, hcell⟩ := hr
  have Hcell := Lib.hid hcell
  have hn' : (cols.length : Int) ≤ 64 := by omega
  clear hM hc hpr hcell
  go_enter Tryd.func24, Tryd.ntmps24
  go_wp2
  go_loopw [5, 15] (fun vb vk wr => ∃ (k : Nat) (ns : List (Value × Nat × Line)), vk = .int .i64 k ∧ k ≤ cols.length ∧ OwnL wr w.heap.size vb ns ∧ ns.map (fun x => x.2.2) = linesL p (fun x => invI x p) cols k ∧ Below w.heap.size w wr) (fun _ vk _ => cols.length - (intOf vk).toNat)
  case atStart => exact ⟨0, [], rfl, Nat.zero_le _, ownL_nil _ _, rfl, Below.refl _ _⟩
  case round =>
    obtain ⟨k, ns, rfl, hk, hown, hns, hbr⟩ := hrel
    have Hown := Lib.hid hown
    have Hns := Lib.hid hns
    have Hbr := Lib.hid hbr
    clear hown hns hbr
    by_cases hlt : k < cols.length
    · obtain ⟨ad, u, hA, hab, hcu, hru⟩ := Hcell.out k hlt
      subst hA
      have hc1 := (Hbr.out.cell (p := ad.add k) (by rw [add_block]; exact hab)).trans hcu
      have Hru := Lib.hid ((hru.below Hbr.out).mono Hbr.out.size)
      have hlines := lines_any (by omega) (inv_ok HP.out) (cols := cols) (k := k) fun i hi => Hc.out i (by omega)
      have hcin := Hc.out k hlt
      obtain ⟨cl, hcl⟩ : ∃ cl, cl = cols.getD k [] := ⟨_, rfl⟩
      rw [← hcl] at hcin Hru
      have hnl : ns.length ≤ 64 := by
        have e1 := congrArg List.length Hns.out
        rw [List.length_map] at e1
        have e2 := congrArg List.length hlines.pl
        rw [List.length_map] at e2
        have e3 := basN_le (p := p) (R := R) (cols := cols) (k := k)
        omega
      have Htake := Lib.hid (hlines.take (by omega) hcin)
      have Hlines := Lib.hid hlines
      have Hcin := Lib.hid hcin
      have Hnext : Hid (linesL p (fun x => invI x p) cols (k + 1) = addL p (fun x => invI x p) (linesL p (fun x => invI x p) cols k) k cl) := by
        show _ = _
        rw [hcl]
        rfl
      have Hcl := Lib.hid hcl
      have HlinesAt := Lib.hid Hown.out.lines
      clear hlines hcin hcl hcu hru
      rw [Hns.out] at HlinesAt
      obtain ⟨ls, hls⟩ : ∃ ls, ls = linesL p (fun x => invI x p) cols k := ⟨_, rfl⟩
      rw [← hls] at HlinesAt Htake Hlines Hnext Hns
      have hlsn : ls.length ≤ 64 := by rw [← Hns.out, List.length_map]; exact hnl
      have Hls := Lib.hid hls
      clear hls
      go_wp2_with fail
      refine (take_any p R _ _ ls cl _ h2 h31 HlinesAt.out Hlines.out.ech Hru.out Hcin.out hR hlsn (fun l hl => Nat.lt_of_lt_of_le (Hlines.out.lt hl) (by omega))).mono ?_
      rintro e w1 ⟨u1, b1, rfl, hown1, hb1, hmap1, hbel1⟩
      generalize hT : takeT p ls cl = T at *
      obtain ⟨lf, f⟩ := T
      simp only at hown1 hmap1
      have hTrow := Htake.out.row
      simp only at hTrow
      have HTrow := Lib.hid hTrow
      have HT := Lib.hid hT
      have Hown1 := Lib.hid hown1
      have Hmap1 := Lib.hid hmap1
      have Hbel1 := Lib.hid hbel1
      have HownL1 := Lib.hid (Hown.out.kept (only_of_below hbel1 none))
      have Hrow1 := Lib.hid (Row.of_own hown1 rfl)
      clear hown1 hmap1 hbel1 hTrow hT Htake HlinesAt Hru
      go_wp2_with fail
      refine (lead_any u1 lf w1 Hrow1.out (by rw [HTrow.out.1]; omega)).mono ?_
      rintro e w2 ⟨rfl, hbel2⟩
      have Hbel2 := Lib.hid hbel2
      have Hbr2 := Lib.hid (below_next (below_next Hbr.out (Nat.le_refl _) Hbel1.out) (Nat.le_refl _) hbel2)
      have HownL2 := Lib.hid (HownL1.out.kept (only_of_below hbel2 none))
      have hnone : u1.ownBlock = none ∨ u1.ownBlock ≠ none := by
        rcases u1.ownBlock with _ | q
        · exact .inl rfl
        · exact .inr (by simp)
      have Hown2 := Lib.hid (Hown1.out.kept (only_of_below hbel2 none) hnone)
      have Hmap2 := Lib.hid (Hmap1.out.kept (only_of_below hbel2 none) (by simp))
      clear hbel2 hnone Hown1 Hmap1 HownL1 Hrow1
      rcases leadI_cases lf with ⟨hl, _⟩ | ⟨i, hil, hl, hx, _⟩
      · rw [hl]
        have Hnx : Hid (linesL p (fun x => invI x p) cols (k + 1) = ls) := by
          show _ = _
          rw [Hnext.out]
          unfold addL
          rw [HT.out, if_pos (by rw [hl]; decide)]
        clear hl
        go_wp2
        go_roundw
        case rel => exact ⟨k + 1, ns, by go_num, by omega, HownL2.out, by rw [Hnx.out]; exact Hns.out, Hbr2.out⟩
        case measure => simp [intOf]; omega
      · rw [hl]
        have hiR : i < R := by rw [← HTrow.out.1]; exact hil
        obtain ⟨g, cu, rfl, hgB⟩ := own_form Hown2.out (by omega)
        have hcx : w2.cell? ⟨g, i, none⟩ = some (.int .i64 (lf.getD i 0)) := by
          rw [Hown2.out.cellAt i (by omega), ints_get hil]
        obtain ⟨x, hxe⟩ : ∃ x, x = lf.getD i 0 := ⟨_, rfl⟩
        rw [← hxe] at hcx hx
        have hi' : (i : Int) < (lf.length : Int) := by omega
        have Hnx : Hid (linesL p (fun x => invI x p) cols (k + 1) = ls ++ [⟨k, lf, i, invI x p, f⟩]) := by
          show _ = _
          rw [Hnext.out]
          unfold addL
          rw [HT.out]
          simp only
          rw [hl, if_neg (by omega), Int.toNat_natCast, ← hxe]
        obtain ⟨iv, hiv⟩ : ∃ iv, iv = invI x p := ⟨_, rfl⟩
        obtain ⟨ok, hok⟩ : ∃ ok, ok = invB x p := ⟨_, rfl⟩
        have Hinv := Lib.hid (inv_is x p iv ok hiv.symm hok.symm)
        rw [← hiv] at Hnx
        have HM2 := Lib.hid (HM.out.up Hbr2.out)
        clear hl hxe hiv hok hx
        go_wp2_with fail
        refine (Hinv.out w2 HM2.out).mono ?_
        rintro e w3 ⟨rfl, hbel3⟩
        have Hbr3 := Lib.hid (below_next Hbr2.out (Nat.le_refl _) hbel3)
        have HownL3 := Lib.hid (HownL2.out.kept (only_of_below hbel3 none))
        have Hown3 := Lib.hid (Hown2.out.kept (only_of_below hbel3 none) (.inr (by simp [Value.ownBlock])))
        have Hmap3 := Lib.hid (Hmap2.out.kept (only_of_below hbel3 none) (by simp))
        clear hbel3 Hown2 Hmap2 HownL2 Hinv hcx
        have Hnew := Lib.hid (Blk.new w3 43 (lineCells (.slice (some ⟨g, 0, none⟩) lf.length cu) b1 ⟨k, lf, i, iv, f⟩).toArray)
        have Hg4 := Lib.hid (World.grownBy_alloc w3 (.cells (lineCells (.slice (some ⟨g, 0, none⟩) lf.length cu) b1 ⟨k, lf, i, iv, f⟩).toArray 43) none)
        have Hbr4 := Lib.hid (Hbr3.out.alloc Hbr3.out.size (.cells (lineCells (.slice (some ⟨g, 0, none⟩) lf.length cu) b1 ⟨k, lf, i, iv, f⟩).toArray 43))
        have HownL4 := Lib.hid (HownL3.out.kept Hg4.out)
        have Hown4 := Lib.hid (own_le (Hown3.out.kept Hg4.out (.inr (by simp [Value.ownBlock]))) Hbr.out.size)
        have Hmap4 := Lib.hid (Hmap3.out.kept Hg4.out (by simp))
        clear HownL3 Hown3 Hmap3 Hg4
        go_wp2_with (at_builtin; refine wpList_append_line rfl _ _ rfl w.heap.size _ ns _ b1 ⟨k, lf, i, iv, f⟩ rfl HownL4.out w3.heap.size rfl Hnew.out rfl Hown4.out ⟨by have := Hbr.out.size; omega, Hmap4.out⟩ hnl Hbr4.out.size ?_)
        intro v5 w5 hown5 hgr5
        have Hbr5 := Lib.hid (Hbr4.out.grown hgr5 Hbr4.out.size (fun i hi => (HownL4.out.own.lt i hi).1))
        have Hown5 := Lib.hid hown5
        clear hown5 hgr5
        go_wp2
        go_roundw
        case rel =>
          refine ⟨k + 1, _, by go_num, by omega, Hown5.out, ?_, Hbr5.out⟩
          rw [List.map_append, Hns.out, Hnx.out]
          rfl
        case measure => simp [intOf]; omega
    · have hke : k = cols.length := by omega
      subst hke
      have Hfin := Lib.hid Hown.out.lines
      rw [Hns.out] at Hfin
      go_wp2
      go_ret
      exact ⟨_, rfl, Hfin.out, Hbr.out⟩

end Wp
end Go.Proofs.YtmnhpccdhefddaaDoor
