/- The law that the queue is as the document says, call by call, walked: it answers true. -/
import Derived.Test.YtcdfjhmlpdhelaaORPop
import Derived.StillTailTactics
namespace Go.Proofs.Ytcdfjhmlpdhelaa
open Go Go.RowKit
namespace Wp

/-- Calls in memory, below block B: a key, an id, and whether it is put in. -/
def Cmds (w : World) (B : Nat) (v : Value) (cs : List (Int × Int × Bool)) : Prop :=
  ∃ A c, v = .slice A cs.length c ∧ ∀ k, k < cs.length → ∃ ad : Addr, A = some ad ∧ ad.block < B ∧ w.cell? (ad.add (k * 3)) = some (.int .i64 (cs.getD k (0, 0, false)).1) ∧
    w.cell? ⟨(ad.add (k * 3)).block, (ad.add (k * 3)).off + 1, none⟩ = some (.int .i64 (cs.getD k (0, 0, false)).2.1) ∧ w.cell? ⟨(ad.add (k * 3)).block, (ad.add (k * 3)).off + 2, none⟩ = some (.bool (cs.getD k (0, 0, false)).2.2)

/-- The least of some, and the others. -/
theorem least_ex {ps : List (Int × Int)} (h : 0 < ps.length) : ∃ x rest, ps.Perm (x :: rest) ∧ ∀ y ∈ ps, ¬ ltP y x := by
  have hp := sortP_perm ps
  have hr := sortP_rise ps
  have hl : 0 < (sortP ps).length := by rw [hp.length_eq]; exact h
  obtain ⟨e, hm⟩ := hr.drop 0 hl
  rw [List.drop_zero] at e hm
  refine ⟨atP (sortP ps) 0, (sortP ps).drop (0 + 1), ?_, fun y hy => hm y (hp.mem_iff.2 hy)⟩
  rw [← e]
  exact hp.symm
theorem least_same {ps rest : List (Int × Int)} {x : Int × Int} {b : Nat} (hb : b < ps.length) (hp : ps.Perm (x :: rest)) (hx : ∀ y ∈ ps, ¬ ltP y x) (hy : ∀ y ∈ ps, ¬ ltP y (atP ps b)) : atP ps b = x ∧ rest.Perm (ps.eraseIdx b) := by
  have e : atP ps b = x := ltP_antisymm (hx _ (atP_mem hb)) (hy x (hp.mem_iff.2 (by simp)))
  refine ⟨e, ?_⟩
  have h2 : (ps[b] :: ps.eraseIdx b).Perm ps := by
    rw [List.eraseIdx_eq_take_drop_succ]
    have h3 := List.perm_middle (a := ps[b]) (l₁ := ps.take b) (l₂ := ps.drop (b + 1))
    have h4 : ps.take b ++ ps[b] :: ps.drop (b + 1) = ps := by rw [← List.drop_eq_getElem_cons hb, List.take_append_drop]
    rw [h4] at h3
    exact h3.symm
  have e2 : ps[b] = x := by
    rw [← e]
    unfold atP
    simp [List.getD, hb]
  rw [e2] at h2
  exact (List.perm_cons x).1 (hp.symm.trans h2.symm)

set_option maxHeartbeats 8000000 in
set_option maxRecDepth 1000000 in
theorem otells_any (v : Value) (cs : List (Int × Int × Bool)) (w : World) (hr : Cmds w w.heap.size v cs) : Calls Try.prog 6 #[v] w (Truly w) := by
  obtain ⟨A, c, rfl, hk⟩ := hr
  have HC := Lib.hid (fun W (hW : Below w.heap.size w W) k (hlt : k < cs.length) => show ∃ ad : Addr, A = some ad ∧ W.cell? (ad.add (k * 3)) = some (.int .i64 (cs.getD k (0, 0, false)).1) ∧
      W.cell? ⟨(ad.add (k * 3)).block, (ad.add (k * 3)).off + 1, none⟩ = some (.int .i64 (cs.getD k (0, 0, false)).2.1) ∧ W.cell? ⟨(ad.add (k * 3)).block, (ad.add (k * 3)).off + 2, none⟩ = some (.bool (cs.getD k (0, 0, false)).2.2) by
    obtain ⟨ad, hA, hb, h1, h2, h3⟩ := hk k hlt
    exact ⟨ad, hA, (hW.cell (p := ad.add (k * 3)) (by rw [add_block]; exact hb)).trans h1, (hW.cell (p := ⟨(ad.add (k * 3)).block, _, none⟩) (by show (ad.add (k * 3)).block < _; rw [add_block]; exact hb)).trans h2, (hW.cell (p := ⟨(ad.add (k * 3)).block, _, none⟩) (by show (ad.add (k * 3)).block < _; rw [add_block]; exact hb)).trans h3⟩)
  have HB0 := Lib.hid (Below.refl w.heap.size w)
  clear hk
  by_cases hb : 100 < (cs.length : Int)
  · go_enter Try.func6, Try.ntmps6
    go_wp2_with fail
    refine (ofixed_any _).mono ?_
    rintro e w1 ⟨rfl, hb1⟩
    have HB1 := Lib.hid (HB0.out.trans hb1)
    clear HB0 hb1
    go_wp2
    go_ret
    exact ⟨rfl, HB1.out⟩
  · go_enter Try.func6, Try.ntmps6
    have hNb : cs.length ≤ 100 := by omega
    go_wp2_with fail
    refine (qnew_any _).mono ?_
    rintro e w1 ⟨rfl, hq, hb1, hz⟩
    unfold qV
    have hb2 : Below w1.heap.size w1 (w1.alloc (.cells #[.slice none 0 0] 40)) := (Below.refl _ w1).alloc (Nat.le_refl _) _
    have HST : Hid (∃ (F : Nat → Prop) (ps : List (Int × Int)) (vr : Value), HQ (w1.alloc (.cells #[.slice none 0 0] 40)) F w.heap.size ps ∧ RQ (w1.alloc (.cells #[.slice none 0 0] 40)) F w1.heap.size vr ps ∧ (∀ k, k < w.heap.size → F k) ∧ ps.length ≤ 0) := Lib.hid
      ⟨fun i => i < w.heap.size ∨ (w1.heap.size ≤ i ∧ i < (w1.alloc (.cells #[.slice none 0 0] 40)).heap.size), [], .slice none 0 0, hq.more hb2,
        ⟨Blk.new w1 _ _, .inr ⟨Nat.le_refl _, by simp⟩, World.ownsRow_nil _ _ _ _, fun e => (by cases e), fun i e => (by cases e)⟩, fun k hk => .inl hk, Nat.le_refl _⟩
    have HB2 := Lib.hid (hb1.trans (hb2.mono hb1.size))
    have hwR : w.heap.size ≤ w1.heap.size := hb1.size
    clear hq hb1 hb2
    go_wp2
    generalize hwa : w1.alloc (.cells #[.slice none 0 0] 40) = wa at *
    clear hwa HB0
    generalize w1.heap.size = R at *
    go_loopw [5] (fun vi wr => ∃ i : Nat, vi = .int .i64 (i : Int) ∧ i ≤ cs.length ∧ Hid (Below w.heap.size w wr ∧ ∃ (F : Nat → Prop) (ps : List (Int × Int)) (vr : Value), HQ wr F w.heap.size ps ∧ RQ wr F R vr ps ∧ (∀ k, k < w.heap.size → F k) ∧ ps.length ≤ i)) (fun vi _ => cs.length - (intOf vi).toNat)
    case atStart => exact ⟨0, rfl, Nat.zero_le _, HB2.out, HST.out⟩
    case round =>
      obtain ⟨i, rfl, hi, HS⟩ := hrel
      obtain ⟨F, ps, vr, hq, hrr, hF, hln⟩ := HS.out.2
      have HQ0 := Lib.hid hq
      have HR0 := Lib.hid hrr
      have HF := Lib.hid hF
      have HBW := Lib.hid HS.out.1
      clear HS hq hrr hF HST
      by_cases hlt : i < cs.length
      · have hiI : (i : Int) < (cs.length : Int) := by omega
        obtain ⟨ad, hA, c1, c2, c3⟩ := HC.out _ HBW.out i hlt
        subst hA
        have HCE : Hid (∀ W, Below w.heap.size w W → W.cell? (ad.add (i * 3)) = some (.int .i64 (cs.getD i (0, 0, false)).1) ∧ W.cell? ⟨(ad.add (i * 3)).block, (ad.add (i * 3)).off + 1, none⟩ = some (.int .i64 (cs.getD i (0, 0, false)).2.1)) := Lib.hid (fun W hW => by
          obtain ⟨ad', e, h1, h2, _⟩ := HC.out W hW i hlt
          injection e with e
          subst e
          exact ⟨h1, h2⟩)
        generalize (cs.getD i (0, 0, false)).1 = k at c1 HCE
        generalize (cs.getD i (0, 0, false)).2.1 = d at c2 HCE
        generalize (cs.getD i (0, 0, false)).2.2 = p at c3
        cases p with
        | true =>
          have HP := Lib.hid (fun W (hW : HQ W F w.heap.size ps) => qpush_any F w.heap.size ps k d (by omega) W hW)
          have HRP := Lib.hid (fun W (hW : RQ W F R vr ps) => rpush_any F R vr ps k d (by omega) W hW)
          go_wp2
          refine wp_region_still_tail 11 (by kernel_rfl) (by kernel_rfl) ?_
          simp only [List.take_succ_cons, List.take_zero, List.drop_succ_cons, List.drop_zero]
          iterate 11 still_step
          refine wpStill_nil ?_
          change wpList _ _ _ _ _ wr.drew
          have hD : Below wr.heap.size wr wr.drew := (Below.refl _ _).drew
          have HQd := Lib.hid (HQ0.out.quiet hD)
          have HRd := Lib.hid (HR0.out.fk (Fk.of_below hD))
          have HBd := Lib.hid HBW.out.drew
          clear c1 c2 c3 hD
          generalize wr.drew = wd at *
          go_wp2_with fail
          refine (HP.out wd HQd.out).mono ?_
          rintro e w5 ⟨rfl, hq5, hk5⟩
          have HB5 := Lib.hid (HBd.out.trans (hk5.below HBd.out.size HF.out))
          have HR5 := Lib.hid (HRd.out.fk hk5)
          have HQ5 := Lib.hid hq5
          obtain ⟨c1, c2⟩ := HCE.out w5 HB5.out
          clear hq5 hk5
          go_wp2
          refine wp_region_still_tail 11 (by kernel_rfl) (by kernel_rfl) ?_
          simp only [List.take_succ_cons, List.take_zero, List.drop_succ_cons, List.drop_zero]
          iterate 11 still_step
          refine wpStill_nil ?_
          change wpList _ _ _ _ _ w5.drew
          have hD : Below w5.heap.size w5 w5.drew := (Below.refl _ _).drew
          have HQe := Lib.hid (HQ5.out.quiet hD)
          have HRe := Lib.hid (HR5.out.fk (Fk.of_below hD))
          have HBe := Lib.hid HB5.out.drew
          clear c1 c2 hD
          generalize w5.drew = we at *
          go_wp2_with fail
          refine (HRP.out we HRe.out).mono ?_
          rintro e w6 ⟨rfl, hg6, v6, hr6⟩
          have hq6 := (HQe.out.other hg6 HRe.out.mine).perm (List.perm_append_comm (l₁ := [(k, d)]) (l₂ := ps))
          have HB6 := Lib.hid (HBe.out.trans (only_below hg6 HBe.out.size hwR))
          obtain ⟨F6, hF6⟩ : ∃ F6 : Nat → Prop, F6 = fun i => F i ∨ (we.heap.size ≤ i ∧ i < w6.heap.size) := ⟨_, rfl⟩
          rw [← hF6] at hq6 hr6
          have HF6 := Lib.hid (show ∀ k, k < w.heap.size → F6 k by intro k hk; rw [hF6]; exact .inl (HF.out k hk))
          have hql : (ps ++ [(k, d)]).length ≤ i + 1 := by rw [List.length_append]; simp; omega
          generalize ps ++ [(k, d)] = qs at hq6 hr6 hql
          obtain ⟨A6, c6, rfl⟩ := hr6.own.slice
          have HQ6 := Lib.hid hq6
          have HR6 := Lib.hid hr6
          have hcq : 0 ≤ qs.length := Nat.zero_le _
          clear hq6 hr6 hg6 hF6 hcq
          have hcr := HR6.out.cell
          have HQL := Lib.hid (fun n => qlen_any F6 w.heap.size qs (w6.drewN n) (HQ6.out.quiet (below_drewN (Below.refl _ _) n)))
          go_wp2
          go_quiet (first | (go_at_call 30; exact Calls.quiet_of_same (HQL.out _)))
          go_wp2
          go_roundw
          case rel => exact ⟨i + 1, by go_num, by omega, below_drewN HB6.out nq, F6, qs, _, HQ6.out.quiet (below_drewN (Below.refl _ _) nq), HR6.out.fk (Fk.of_below (below_drewN (Below.refl _ _) nq)), HF6.out, hql⟩
          case measure => simp [intOf]; omega
        | false =>
          by_cases h0 : ps.length = 0
          · obtain rfl : ps = [] := List.eq_nil_of_length_eq_zero h0
            clear c1 c2
            obtain ⟨A6, c6, rfl⟩ := HR0.out.own.slice
            go_wp2_with fail
            refine (qpop_none F w.heap.size _ HQ0.out).mono ?_
            rintro e w5 ⟨rfl, hw5⟩
            replace hw5 := hw5.symm
            subst hw5
            go_wp2_with fail
            refine (rpop_none F R _ _ HR0.out).mono ?_
            rintro e w5 ⟨rfl, hw5⟩
            replace hw5 := hw5.symm
            subst hw5
            have hcr := HR0.out.cell
            have HQL := Lib.hid (fun n => qlen_any F w.heap.size [] (wr.drewN n) (HQ0.out.quiet (below_drewN (Below.refl _ _) n)))
            go_wp2
            go_quiet (first | (go_at_call 30; exact Calls.quiet_of_same (HQL.out _)))
            go_wp2
            go_roundw
            case rel => exact ⟨i + 1, by go_num, by omega, below_drewN HBW.out nq, F, [], _, HQ0.out.quiet (below_drewN (Below.refl _ _) nq), HR0.out.fk (Fk.of_below (below_drewN (Below.refl _ _) nq)), HF.out, Nat.zero_le _⟩
            case measure => simp [intOf]; omega
          · clear c1 c2
            obtain ⟨x, rest, hp, hx⟩ := least_ex (ps := ps) (by omega)
            have HPO := Lib.hid (qpop_any F w.heap.size ps rest x hp hx (by omega) _ HQ0.out)
            have HPX := Lib.hid (And.intro hp hx)
            clear hp hx
            go_wp2_with fail
            refine HPO.out.mono ?_
            rintro e w5 ⟨rfl, hq5, hk5⟩
            have HB5 := Lib.hid (HBW.out.trans (hk5.below HBW.out.size HF.out))
            have HR5 := Lib.hid (HR0.out.fk hk5)
            have HQ5 := Lib.hid hq5
            clear hq5 hk5
            go_wp2_with fail
            refine (rpop_any F R vr ps (by omega) (by omega) _ HR5.out).mono ?_
            rintro e w6 ⟨b, hb, hy, rfl, hg6, v6, hr6⟩
            obtain ⟨e1, hperm⟩ := least_same hb HPX.out.1 HPX.out.2 hy
            rw [e1]
            have hq6 := (HQ5.out.other hg6 HR5.out.mine).perm hperm
            have HB6 := Lib.hid (HB5.out.trans (only_below hg6 HB5.out.size hwR))
            obtain ⟨F6, hF6⟩ : ∃ F6 : Nat → Prop, F6 = fun i => F i ∨ (w5.heap.size ≤ i ∧ i < w6.heap.size) := ⟨_, rfl⟩
            rw [← hF6] at hq6 hr6
            have HF6 := Lib.hid (show ∀ k, k < w.heap.size → F6 k by intro k hk; rw [hF6]; exact .inl (HF.out k hk))
            have hql : (ps.eraseIdx b).length ≤ i + 1 := by have := List.length_eraseIdx_le ps b; omega
            generalize ps.eraseIdx b = qs at hq6 hr6 hql
            obtain ⟨A6, c6, rfl⟩ := hr6.own.slice
            have HQ6 := Lib.hid hq6
            have HR6 := Lib.hid hr6
            clear hq6 hr6 hg6 hF6 e1 hperm hy hb
            have hcr := HR6.out.cell
            have HQL := Lib.hid (fun n => qlen_any F6 w.heap.size qs (w6.drewN n) (HQ6.out.quiet (below_drewN (Below.refl _ _) n)))
            go_wp2
            go_quiet (first | (go_at_call 30; exact Calls.quiet_of_same (HQL.out _)))
            go_wp2
            go_roundw
            case rel => exact ⟨i + 1, by go_num, by omega, below_drewN HB6.out nq, F6, qs, _, HQ6.out.quiet (below_drewN (Below.refl _ _) nq), HR6.out.fk (Fk.of_below (below_drewN (Below.refl _ _) nq)), HF6.out, hql⟩
            case measure => simp [intOf]; omega
      · have hie : i = cs.length := by omega
        clear hlt hi
        subst hie
        go_wp2_with fail
        refine (ofixed_any _).mono ?_
        rintro e w5 ⟨rfl, hb5⟩
        have H5 := Lib.hid (below_next HBW.out (Nat.le_refl _) hb5)
        clear hb5
        go_wp2
        go_ret
        exact ⟨rfl, H5.out⟩

end Wp
end Go.Proofs.Ytcdfjhmlpdhelaa
