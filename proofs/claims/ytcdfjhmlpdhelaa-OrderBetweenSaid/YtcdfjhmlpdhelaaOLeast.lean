/- The law of a queue by amounts below 0, walked: it answers true. -/
import Derived.Test.YtcdfjhmlpdhelaaOFixed
import Derived.Test.YtcdfjhmlpdhelaaOLawP
namespace Go.Proofs.Ytcdfjhmlpdhelaa
open Go.RowKit
namespace Wp

/-- A list that lies below B, read at an index. -/
theorem Row.read {w : World} {B : Nat} {A : Option Addr} {n c : Nat} {l : List Int} (h : Row w B (.slice A n c) l) (k : Nat) (hk : k < l.length) : ∃ ad : Addr, A = some ad ∧ ad.block < B ∧ w.cell? (ad.add k) = some (.int .i64 (l.getD k 0)) := by
  obtain ⟨A', c', e, _, hc⟩ := h
  injection e with e1 e2 e3
  subst e1
  exact hc k hk

theorem add_at (g t : Nat) : (⟨g, 0, none⟩ : Addr).add t = ⟨g, t, none⟩ := by unfold Addr.add; split <;> simp_all
/-- A list that is another's stays. -/
theorem Row.foreign {w w' : World} {F : Nat → Prop} {A : Option Addr} {n c : Nat} {l : List Int} (h : Row w w.heap.size (.slice A n c) l) (hk : Fk F w w') (hF : ∀ ad, A = some ad → F ad.block) : Row w' w'.heap.size (.slice A n c) l := by
  obtain ⟨A', c', e, hn, hc⟩ := h
  injection e with e1 e2 e3
  subst e1 e2 e3
  refine ⟨A, c, rfl, hn, fun k hlt => ?_⟩
  obtain ⟨ad, hA, hb, hcc⟩ := hc k hlt
  refine ⟨ad, hA, Nat.lt_of_lt_of_le hb hk.size, ?_⟩
  exact (World.cell?_of_block (a := ad.add k) (by rw [add_block]; exact hk.block _ hb (hF ad hA))).trans hcc

set_option maxHeartbeats 8000000 in
set_option maxRecDepth 1000000 in
theorem oleast_any (v : Value) (l : List Int) (w : World) (hr : Row w w.heap.size v l) : Calls Try.prog 11 #[v] w (Truly w) := by
  have HB0 := Lib.hid (Below.refl w.heap.size w)
  have HR0 := Lib.hid hr
  obtain ⟨A, c, rfl, _⟩ := hr
  by_cases hb : 100 < (l.length : Int)
  · go_enter Try.func11, Try.ntmps11
    go_wp2_with fail
    refine (ofixed_any _).mono ?_
    rintro e w1 ⟨rfl, hb1⟩
    have HB1 := Lib.hid (HB0.out.trans hb1)
    clear HB0 hb1
    go_wp2_with fail
    refine (ofixed_any _).mono ?_
    rintro e w2 ⟨rfl, hb2⟩
    have HB2 := Lib.hid (below_next HB1.out (Nat.le_refl _) hb2)
    clear HB1 hb2
    go_wp2
    go_ret
    exact ⟨rfl, HB2.out⟩
  · go_enter Try.func11, Try.ntmps11
    go_wp2_with fail
    refine (ofixed_any _).mono ?_
    rintro e w1 ⟨rfl, hb1⟩
    have HB1 := Lib.hid (HB0.out.trans hb1)
    have HR1 := Lib.hid (HR0.out.up hb1)
    clear HB0 HR0 hb1
    go_wp2_with fail
    refine (qnew_any _).mono ?_
    rintro e w2 ⟨rfl, hq, hb2, hz⟩
    unfold qV
    have HB2 := Lib.hid (below_next HB1.out (Nat.le_refl _) hb2)
    have HQ2 := Lib.hid hq
    have HW := Lib.hid hb2
    clear hb2 hq
    go_wp2
    go_loopw [4] (fun vi wr => ∃ i : Nat, vi = .int .i64 (i : Int) ∧ i ≤ l.length ∧ Hid (HQ wr (fun k => k < w1.heap.size) w1.heap.size (keyed (fun j => -l.getD j 0) i) ∧ Below w1.heap.size w1 wr ∧ (∀ j, j < i → -1099511627776 ≤ l.getD j 0 ∧ l.getD j 0 ≤ 1099511627776))) (fun vi _ => l.length - (intOf vi).toNat)
    case atStart => exact ⟨0, rfl, Nat.zero_le _, HQ2.out, HW.out, fun j hj => by omega⟩
    case round =>
      obtain ⟨i, rfl, hi, HS⟩ := hrel
      have hsz2 := HS.out.2.1.size
      by_cases hlt : i < l.length
      · have hiI : (i : Int) < (l.length : Int) := by omega
        obtain ⟨ad, hA, had, hc⟩ := (HR1.out.below HS.out.2.1).read i hlt
        subst hA
        obtain ⟨x, hx⟩ : ∃ x, l.getD i 0 = x := ⟨_, rfl⟩
        rw [hx] at hc
        have HX := Lib.hid hx
        clear hx
        have hw : Below w.heap.size w wr := HB1.out.trans (HS.out.2.1.mono HB1.out.size)
        have HW2 := Lib.hid hw
        have hneg : ∀ x : Int, -1099511627776 ≤ x → x ≤ 1099511627776 → wrap64 (-x) = -x := fun x h1 h2 => by unfold wrap64; omega
        clear hw HB2 HQ2 HW
        by_cases h1 : x < -1099511627776
        · clear hneg
          go_wp2
          go_ret
          exact ⟨rfl, HW2.out⟩
        · by_cases h2 : 1099511627776 < x
          · clear hneg
            go_wp2
            go_ret
            exact ⟨rfl, HW2.out⟩
          · have hn1 := hneg (x) (by omega) (by omega)
            have H1 := Lib.hid (show -1099511627776 ≤ x ∧ x ≤ 1099511627776 by omega)
            clear hneg
            go_wp2_with fail
            refine (qpush_any (fun k => k < w1.heap.size) w1.heap.size _ (-x) (i : Int) (by rw [keyed_length]; omega) _ HS.out.1).mono ?_
            rintro e w3 ⟨rfl, hq3, hk3⟩
            have H3 := Lib.hid (HS.out.2.1.trans (hk3.below hsz2 fun i hi => hi))
            have HQ3 := Lib.hid hq3
            clear hq3 hk3
            go_wp2
            go_roundw
            case rel =>
              refine ⟨i + 1, by go_num, by omega, by unfold keyed; rw [HX.out]; exact HQ3.out, H3.out, fun j hj => ?_⟩
              by_cases e : j = i
              · rw [e, HX.out]; exact H1.out
              · exact HS.out.2.2 j (by omega)
            case measure => simp [intOf]; omega
      · have hie : i = l.length := by omega
        clear hlt hi
        subst hie
        have HRr := Lib.hid ((HR1.out.below HS.out.2.1).mono hsz2)
        have hw : Below w.heap.size w wr := HB1.out.trans (HS.out.2.1.mono HB1.out.size)
        have HW2 := Lib.hid hw
        clear hw HB2 HQ2 HW
        go_wp2_with fail
        refine (great_new _ l _ HRr.out (by omega)).mono ?_
        rintro e w4 ⟨rfl, hr4, hb4, hz4⟩
        obtain ⟨F2, hF2⟩ : ∃ F2 : Nat → Prop, F2 = fun k => k < w1.heap.size ∨ (wr.heap.size ≤ k ∧ k < w4.heap.size) := ⟨_, rfl⟩
        have HQ4 := Lib.hid (show HQ w4 F2 w1.heap.size (leastS l) by rw [hF2]; exact (HS.out.1.more hb4).perm (leastS_perm l))
        have HFo := Lib.hid (show F2 (wr.heap.size + 1) by rw [hF2]; exact .inr ⟨by omega, hz4⟩)
        have HFb := Lib.hid (show ∀ k, k < w1.heap.size → F2 k by intro k hk; rw [hF2]; exact .inl hk)
        clear hF2
        have HR4 := Lib.hid (HRr.out.up hb4)
        have HO4 := Lib.hid hr4
        have HW4 := Lib.hid (below_next HW2.out (Nat.le_refl _) hb4)
        have HBD := Lib.hid HS.out.2.2
        have hs4 := HB1.out.size
        have HA := Lib.hid (fun ad (e : A = some ad) => show ad.block < w1.heap.size ∨ l.length = 0 by
          rcases Nat.eq_zero_or_pos l.length with h0 | h0
          · exact .inr h0
          · obtain ⟨ad', e', hb', _⟩ := (HR1.out).read 0 h0
            rw [e] at e'
            injection e' with e'
            subst e'
            exact .inl hb')
        clear hr4 hb4 HS HW2 HRr hz4
        generalize wr.heap.size + 1 = G at *
        go_wp2
        go_loopw [6] (fun vi wx => ∃ t : Nat, vi = .int .i64 (t : Int) ∧ t ≤ l.length ∧ Hid (HQ wx F2 w1.heap.size ((leastS l).drop t) ∧ Fk F2 w4 wx)) (fun vi _ => l.length - (intOf vi).toNat)
        case atStart => exact ⟨0, rfl, Nat.zero_le _, HQ4.out, Fk.refl _ _⟩
        case round =>
          obtain ⟨t, rfl, ht, HS⟩ := hrel
          by_cases hlt : t < l.length
          · have htI : (t : Int) < (l.length : Int) := by omega
            obtain ⟨j, hj, hg, ha⟩ := leastS_at l t hlt
            obtain ⟨he, hmin⟩ := (leastS_rise l).drop t (by rw [leastS_length]; exact hlt)
            have hp := qpop_any F2 w1.heap.size ((leastS l).drop t) ((leastS l).drop (t + 1)) (atP (leastS l) t) (by rw [he]) hmin (by rw [List.length_drop, leastS_length]; omega) wr HS.out.1
            rw [ha] at hp
            have HP := Lib.hid hp
            have HG := Lib.hid hg
            have hjI : (j : Int) < (l.length : Int) := by omega
            have HFl := Lib.hid (show ∀ ad, A = some ad → F2 ad.block from fun ad e => HFb.out _ ((HA.out ad e).resolve_right (by omega)))
            obtain ⟨x, hx⟩ : ∃ x, l.getD j 0 = x := ⟨_, rfl⟩
            have hneg : wrap64 (-x) = -x := by
              have := HBD.out j hj
              rw [hx] at this
              unfold wrap64
              omega
            have HX := Lib.hid hx
            rw [hx] at HP
            clear hp hg ha he hmin hx
            go_wp2_with fail
            refine HP.out.mono ?_
            rintro e w5 ⟨rfl, hq5, hk5⟩
            have hk6 := HS.out.2.trans hk5
            obtain ⟨ad, hA, _, hcl⟩ := (HR4.out.foreign hk6 HFl.out).read j hj
            obtain ⟨adg, hAg, _, hcg⟩ := (HO4.out.foreign hk6 (fun ad e => by injection e with e; rw [← e]; exact HFo.out)).read t (by rw [(great_places l).length]; exact hlt)
            injection hAg with hAg
            subst hAg
            rw [HG.out, add_at] at hcg
            rw [HX.out] at hcl
            subst hA
            have H5 := Lib.hid hq5
            have H6 := Lib.hid hk6
            clear hq5 hk5 hk6
            go_wp2
            go_roundw
            case rel => exact ⟨t + 1, by go_num, by omega, H5.out, H6.out⟩
            case measure => simp [intOf]; omega
          · have hte : t = l.length := by omega
            clear hlt ht
            subst hte
            have hd : (leastS l).drop l.length = [] := List.drop_of_length_le (by rw [leastS_length]; exact Nat.le_refl _)
            have h0 := HS.out.1
            rw [hd] at h0
            have H0 := Lib.hid h0
            have hw4 := HW4.out.size
            have H9 := Lib.hid (HW4.out.trans (HS.out.2.below hw4 fun i hi => HFb.out i (by omega)))
            clear h0 hd
            go_wp2_with fail
            refine (qlen_any F2 w1.heap.size [] _ H0.out).mono ?_
            rintro e w5 ⟨rfl, hw5⟩
            replace hw5 := hw5.symm
            subst hw5
            go_wp2
            go_ret
            exact ⟨rfl, H9.out⟩

end Wp
end Go.Proofs.Ytcdfjhmlpdhelaa
