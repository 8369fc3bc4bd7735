/- The document's queue, walked: Pop. -/
import Derived.Test.YtcdfjhmlpdhelaaORQ
import Derived.StillTailTactics
namespace Go.Proofs.Ytcdfjhmlpdhelaa
open Go Go.RowKit
namespace Wp

def arrV (p : Int × Int) : Value := .agg #[.int .i64 p.1, .int .i64 p.2]
set_option maxHeartbeats 8000000 in
theorem refless_any (x y : Int × Int) (w : World) : Calls Try.prog 45 #[arrV x, arrV y] w (Says w (decide (ltP x y))) := by
  have hb : Below w.heap.size w ((w.alloc (.cells #[.int .i64 x.1, .int .i64 x.2] 67)).alloc (.cells #[.int .i64 y.1, .int .i64 y.2] 67)) := ((Below.refl _ w).alloc (Nat.le_refl _) _).alloc (by simp) _
  have HB := Lib.hid hb
  clear hb
  unfold arrV
  by_cases h1 : x.1 < y.1
  · have HE := Lib.hid (show decide (ltP x y) = true from decide_eq_true (.inl h1))
    have d1 : decide (x.1 < y.1) = true := decide_eq_true h1
    rw [HE.out]
    go_enter Try.func45, Try.ntmps45
    go_wp2
    go_ret
    exact ⟨rfl, HB.out⟩
  · have d1 : decide (x.1 < y.1) = false := decide_eq_false h1
    by_cases h2 : x.1 = y.1
    · have d2 : (x.1 == y.1) = true := by rw [h2]; exact beq_self_eq_true _
      have HE := Lib.hid (show decide (ltP x y) = decide (x.2 < y.2) from decide_eq_decide.2 (by unfold ltP; omega))
      rw [HE.out]
      clear h2
      go_enter Try.func45, Try.ntmps45
      go_wp2
      go_ret
      exact ⟨rfl, HB.out⟩
    · have d2 : (x.1 == y.1) = false := by rw [beq_eq_false_iff_ne]; exact h2
      have HE := Lib.hid (show decide (ltP x y) = false from decide_eq_false (by unfold ltP; omega))
      rw [HE.out]
      go_enter Try.func45, Try.ntmps45
      go_wp2
      go_ret
      exact ⟨rfl, HB.out⟩

theorem own_mono {w : World} {base base' n : Nat} {e : TypeId} {size : Nat} {v : Value} {xs : List Value} (hb : base' ≤ base) (h : w.ownsRow base e size v n xs) : w.ownsRow base' e size v n xs :=
  ⟨h.1, h.2.imp id fun ⟨g, cap, cur, h1, h3, h2⟩ => ⟨g, cap, cur, h1, Nat.le_trans hb h3, h2⟩⟩
/-- All of the first i but the b-th. -/
def restL (ps : List (Int × Int)) (b i : Nat) : List (Int × Int) := (ps.take i).eraseIdx b
theorem restL_zero (ps : List (Int × Int)) (b : Nat) : restL ps b 0 = [] := by simp [restL]
theorem restL_all (ps : List (Int × Int)) (b : Nat) : restL ps b ps.length = ps.eraseIdx b := by unfold restL; rw [List.take_length]
theorem restL_take {ps : List (Int × Int)} {i : Nat} (hi : i < ps.length) : ps.take (i + 1) = ps.take i ++ [atP ps i] := by
  rw [List.take_succ_eq_append_getElem hi]
  congr 2
  unfold atP
  simp [List.getD, hi]
theorem restL_skip {ps : List (Int × Int)} {b : Nat} (hb : b < ps.length) : restL ps b (b + 1) = restL ps b b := by
  unfold restL
  have h1 : (ps.take b).length = b := by rw [List.length_take]; omega
  have e2 : (ps.take b).eraseIdx b = ps.take b := List.eraseIdx_of_length_le (by omega)
  rw [restL_take hb, List.eraseIdx_append_of_length_le (by omega), h1, Nat.sub_self, e2]
  simp
theorem restL_keep {ps : List (Int × Int)} {b i : Nat} (hi : i < ps.length) (hne : i ≠ b) : restL ps b (i + 1) = restL ps b i ++ [atP ps i] := by
  unfold restL
  rw [restL_take hi]
  by_cases h : b < i
  · rw [List.eraseIdx_append_of_lt_length (by rw [List.length_take]; omega)]
  · rw [List.eraseIdx_of_length_le (by rw [List.length_append, List.length_take]; simp; omega), List.eraseIdx_of_length_le (by rw [List.length_take]; omega)]
theorem restL_length (ps : List (Int × Int)) (b i : Nat) : (restL ps b i).length ≤ ps.length := by
  unfold restL
  have := List.length_eraseIdx_le (ps.take i) b
  rw [List.length_take] at this
  omega

theorem rpop_none (F : Nat → Prop) (q : Nat) (v : Value) (w : World) (h : RQ w F q v []) : Calls Try.prog 29 #[.pointer (some ⟨q, 0, none⟩)] w fun e w' => e = .returned (.tuple #[.int .i64 0, .int .i64 0, .bool false]) ∧ w' = w := by
  have hc := h.cell
  obtain ⟨A, c, rfl⟩ := h.own.slice
  clear h
  go_enter Try.func29, Try.ntmps29
  go_wp2
  go_ret3
  exact ⟨rfl, rfl⟩

set_option maxHeartbeats 8000000 in
set_option maxRecDepth 1000000 in
theorem rpop_any (F : Nat → Prop) (q : Nat) (v : Value) (ps : List (Int × Int)) (hl : ps.length ≤ 1048575) (h0 : 0 < ps.length) (w : World) (h : RQ w F q v ps) :
    Calls Try.prog 29 #[.pointer (some ⟨q, 0, none⟩)] w fun e w' => ∃ b, b < ps.length ∧ (∀ y ∈ ps, ¬ ltP y (atP ps b)) ∧ e = .returned (.tuple #[.int .i64 (atP ps b).1, .int .i64 (atP ps b).2, .bool true]) ∧
      w.grownBy w' (some q) ∧ ∃ v', RQ w' (fun i => F i ∨ (w.heap.size ≤ i ∧ i < w'.heap.size)) q v' (ps.eraseIdx b) := by
  have hql := h.blk.lt
  have HR := Lib.hid h
  obtain ⟨A, c, rfl⟩ := h.own.slice
  obtain ⟨g, rfl, hgl, _⟩ := h.own.cells 0 h0
  have HC := Lib.hid (fun W (hW : Below w.heap.size w W) => (hW.cell (p := ⟨q, 0, none⟩) hql).trans h.cell)
  have HP := Lib.hid (fun W (hW : Below w.heap.size w W) k (hk : k < ps.length) => show W.cell? ⟨g, k * 2, none⟩ = some (.int .i64 (atP ps k).1) ∧ W.cell? ⟨g, k * 2 + 1, none⟩ = some (.int .i64 (atP ps k).2) by
    obtain ⟨g', e, _, h1, h2⟩ := h.own.cells k hk
    have e : g = g' := by
      have := Option.some.inj e
      injection this
    subst e
    exact ⟨(hW.cell (p := ⟨g, k * 2, none⟩) hgl).trans h1, (hW.cell (p := ⟨g, k * 2 + 1, none⟩) hgl).trans h2⟩)
  have hc := HC.out w (Below.refl _ w)
  have h0I : ¬ (ps.length : Int) = 0 := by omega
  have h0b : ((ps.length : Int) == 0) = false := by rw [beq_eq_false_iff_ne]; exact h0I
  clear h
  go_enter Try.func29, Try.ntmps29
  go_wp2
  go_loopw [5, 6] (fun vb vi wr => ∃ b i : Nat, vb = .int .i64 (b : Int) ∧ vi = .int .i64 (i : Int) ∧ b < ps.length ∧ i ≤ ps.length ∧ Hid ((∀ j, j < i → ¬ ltP (atP ps j) (atP ps b)) ∧ Below w.heap.size w wr)) (fun _ vi _ => ps.length - (intOf vi).toNat)
  case atStart => exact ⟨0, 1, rfl, rfl, h0, h0, fun j hj => by rw [show j = 0 by omega]; exact ltP_irrefl _, Below.refl _ _⟩
  case round =>
    obtain ⟨b, i, rfl, rfl, hb, hi, HS⟩ := hrel
    have hcr := HC.out _ HS.out.2
    clear hc
    by_cases hlt : i < ps.length
    · have hiI : (i : Int) < (ps.length : Int) := by omega
      have hbI : (b : Int) < (ps.length : Int) := by omega
      obtain ⟨c1, c2⟩ := HP.out _ HS.out.2 i hlt
      obtain ⟨c3, c4⟩ := HP.out _ HS.out.2 b hb
      have HLS := Lib.hid (refless_any (atP ps i) (atP ps b))
      obtain ⟨x, hx⟩ : ∃ x, atP ps i = x := ⟨_, rfl⟩
      obtain ⟨y, hy⟩ : ∃ y, atP ps b = y := ⟨_, rfl⟩
      rw [hx] at c1 c2 HLS
      rw [hy] at c3 c4 HLS
      have HX := Lib.hid hx
      have HY := Lib.hid hy
      unfold arrV at HLS
      clear hx hy
      go_wp2
      refine wp_region_still_tail 14 (by kernel_rfl) (by kernel_rfl) ?_
      simp only [List.take_succ_cons, List.take_zero, List.drop_succ_cons, List.drop_zero]
      iterate 14 still_step
      refine wpStill_nil ?_
      change wpList _ _ _ _ _ wr.drew
      have HD := Lib.hid HS.out.2.drew
      generalize wr.drew = wd at *
      by_cases hxy : ltP x y
      · have hle := HLS.out wd
        rw [decide_eq_true hxy] at hle
        have HLE := Lib.hid hle
        have HXY := Lib.hid hxy
        clear hle hxy HLS
        go_wp2_with fail
        refine HLE.out.mono ?_
        rintro e w5 ⟨rfl, hb5⟩
        have H5 := Lib.hid (below_next HD.out (Nat.le_refl _) hb5)
        clear hb5
        go_wp2
        go_roundw
        case rel =>
          refine ⟨i, i + 1, rfl, by go_num, hlt, by omega, fun j hj => ?_, H5.out⟩
          rw [HX.out]
          by_cases e : j = i
          · rw [e, HX.out]; exact ltP_irrefl _
          · have := HS.out.1 j (by omega)
            rw [HY.out] at this
            exact leP_trans (ltP_asymm HXY.out) this
        case measure => simp [intOf]; omega
      · have hle := HLS.out wd
        rw [decide_eq_false hxy] at hle
        have HLE := Lib.hid hle
        have HXY := Lib.hid hxy
        clear hle hxy HLS
        go_wp2_with fail
        refine HLE.out.mono ?_
        rintro e w5 ⟨rfl, hb5⟩
        have H5 := Lib.hid (below_next HD.out (Nat.le_refl _) hb5)
        clear hb5
        go_wp2
        go_roundw
        case rel =>
          refine ⟨b, i + 1, rfl, by go_num, hb, by omega, fun j hj => ?_, H5.out⟩
          by_cases e : j = i
          · rw [e, HX.out, HY.out]; exact HXY.out
          · exact HS.out.1 j (by omega)
        case measure => simp [intOf]; omega
    · have hie : i = ps.length := by omega
      clear hlt hi
      subst hie
      have hbI : (b : Int) < (ps.length : Int) := by omega
      obtain ⟨c3, c4⟩ := HP.out _ HS.out.2 b hb
      have HLEAST := Lib.hid (fun y (hy : y ∈ ps) => show ¬ ltP y (atP ps b) by
        obtain ⟨j, hj, rfl⟩ := mem_atP hy
        exact HS.out.1 j hj)
      obtain ⟨y, hy⟩ : ∃ y, atP ps b = y := ⟨_, rfl⟩
      rw [hy] at c3 c4 HLEAST
      have HY := Lib.hid hy
      have hsz := HS.out.2.size
      have HS2 := Lib.hid HS.out.2
      have HX0 : Hid (Blk (wr.alloc (.cells #[.int .i64 y.1, .int .i64 y.2] 67)) wr.heap.size 67 #[.int .i64 y.1, .int .i64 y.2]) := Lib.hid (Blk.new wr _ _)
      have HZ := Lib.hid ((HS.out.2).alloc hsz (.cells #[.int .i64 y.1, .int .i64 y.2] 67))
      have hO : (((wr.alloc (.cells #[.int .i64 y.1, .int .i64 y.2] 67)).alloc (.cells #[] 67))).ownsRow (wr.heap.size + 1) 67 2 (.slice (some ⟨wr.heap.size + 1, 0, none⟩) 0 0) 0 [] := by
        have := World.ownsRow_made (e := 67) (size := 2) (base := wr.heap.size + 1) (wr.alloc (.cells #[.int .i64 y.1, .int .i64 y.2] 67)) #[] 0 (by simp) (by unfold maxLen; omega) rfl
        simpa using this
      have HO := Lib.hid hO
      have hZZ : Below (wr.heap.size + 1) (wr.alloc (.cells #[.int .i64 y.1, .int .i64 y.2] 67)) ((wr.alloc (.cells #[.int .i64 y.1, .int .i64 y.2] 67)).alloc (.cells #[] 67)) := (Below.refl _ _).alloc (by simp) _
      have HZZ := Lib.hid hZZ
      have hX : wr.heap.size < wr.heap.size + 1 := by omega
      clear hy HS hO hZZ
      go_wp2
      generalize hwz : wr.alloc (.cells #[.int .i64 y.1, .int .i64 y.2] 67) = wz at *
      clear hwz
      generalize wr.heap.size = X at *
      clear hcr c3 c4
      go_loopw [8, 9] (fun vr vi wx => ∃ i : Nat, vi = .int .i64 (i : Int) ∧ i ≤ ps.length ∧ Hid (wx.ownsRow (X + 1) 67 2 vr (restL ps b i).length (flatP (restL ps b i)) ∧ Below (X + 1) wz wx)) (fun _ vi _ => ps.length - (intOf vi).toNat)
      case atStart => exact ⟨0, rfl, Nat.zero_le _, by rw [restL_zero]; exact HO.out, HZZ.out⟩
      case round =>
        obtain ⟨i, rfl, hi, HR2⟩ := hrel
        have hbz : Below w.heap.size w wr := HZ.out.trans (HR2.out.2.mono (by omega))
        have hcr := HC.out _ hbz
        have HBZ := Lib.hid hbz
        have hXz : X + 1 ≤ wr.heap.size := by
          have h1 := HX0.out.lt
          have h2 := HR2.out.2.size
          omega
        by_cases hlt : i < ps.length
        · have hiI : (i : Int) < (ps.length : Int) := by omega
          by_cases hib : i = b
          · have HI := Lib.hid hib
            have d1 : ((i : Int) != (b : Int)) = false := by rw [hib]; simp
            clear hib hbz
            go_wp2
            go_roundw
            case rel => exact ⟨i + 1, by go_num, by omega, by rw [HI.out, restL_skip hb, ← HI.out]; rw [HI.out]; have := HR2.out.1; rw [HI.out] at this; exact this, HR2.out.2⟩
            case measure => simp [intOf]; omega
          · have d1 : ((i : Int) != (b : Int)) = true := by
              rw [bne_iff_ne]
              omega
            obtain ⟨c1, c2⟩ := HP.out _ hbz i hlt
            have HK := Lib.hid (restL_keep hlt hib)
            have HLN := Lib.hid (restL_length ps b i)
            obtain ⟨x, hx⟩ : ∃ x, atP ps i = x := ⟨_, rfl⟩
            rw [hx] at c1 c2 HK
            have HL : Hid (OwnR2 (wr.alloc (.cells #[.int .i64 x.1, .int .i64 x.2] 67)) (.slice (some ⟨wr.heap.size, 0, none⟩) 1 1) [x]) := Lib.hid ⟨rfl, .inr ⟨wr.heap.size, 1, _, rfl, Nat.zero_le _, heap_alloc_new wr _, Nat.le_refl _, by decide, rfl, rfl⟩⟩
            clear hbz hx hib
            go_wp2_with (at_builtin; refine wpList_append_two rfl _ _ rfl (X + 1) _ _ (restL ps b i) [x] rfl rfl (World.ownsRow.alloc HR2.out.1 _) HL.out (by have := HLN.out; omega) (by simp) (by simp; omega) ?_)
            intro v2 w2 hown2 hg2
            have hown2' : w2.ownsRow (X + 1) 67 2 v2 (restL ps b i ++ [x]).length (flatP (restL ps b i ++ [x])) := by rw [List.length_append]; exact hown2
            rw [← HK.out] at hown2'
            have hb2 : Below (X + 1) wz w2 := (HR2.out.2.alloc hXz _).grown hg2 (by simp; omega) (fun i hi => (World.ownsRow.lt HR2.out.1 i hi).1)
            have HO2 := Lib.hid hown2'
            have HB2 := Lib.hid hb2
            clear hown2 hown2' hg2 hb2
            go_wp2
            go_roundw
            case rel => exact ⟨i + 1, by go_num, by omega, HO2.out, HB2.out⟩
            case measure => simp [intOf]; omega
        · have hie : i = ps.length := by omega
          clear hlt hi
          subst hie
          have hown := HR2.out.1
          rw [restL_all] at hown
          obtain ⟨A2, c2, rfl⟩ := OwnR2.slice (ps := ps.eraseIdx b) (own_any hown)
          have hE := rq_store HR.out hbz (own_mono (by omega) hown)
          have hf := (HR.out.blk.below hbz hql).frozen 0
          have hx0 := (HX0.out.below HR2.out.2 (by omega)).cell 0
          have hx1 := (HX0.out.below HR2.out.2 (by omega)).cell 1
          simp only [List.getElem?_toArray, List.getElem?_cons_zero, List.getElem?_cons_succ] at hx0 hx1
          have hXq : X ≠ q := by omega
          have hqX : q ≠ X := by omega
          have HE := Lib.hid hE
          clear hown hE hbz
          go_wp2
          go_quiet (fail)
          go_wp2
          go_ret3
          obtain ⟨k1, v', k2⟩ := HE.out
          exact ⟨b, hb, by rw [HY.out]; exact HLEAST.out, by rw [HY.out]; rfl, only_drewN k1 nq, v', k2.fk (Fk.of_below (below_drewN (Below.refl _ _) nq))⟩

end Wp
end Go.Proofs.Ytcdfjhmlpdhelaa
