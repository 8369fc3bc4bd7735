/- Whether that is a matching of so many: the document's Matches, walked where it is one. -/
import Derived.Test.YtjhkmilfhecdfaaK6May
import Derived.Test.YtjhkmilfhecdfaaSRefU
namespace Go.Proofs.Ytjhkmilfhecdfaa
open Go.RowKit
namespace Wp

theorem may_set {right : Int} {adj : List (List Int)} (h : mayM right adj = true) (i : Nat) : IsSet (adj.getD i []) := by
  rcases Nat.lt_or_ge i adj.length with hi | hi
  · unfold mayM at h
    rw [Bool.and_eq_true, Bool.and_eq_true, List.all_eq_true] at h
    have hk := h.2 _ (List.getElem_mem hi)
    unfold okL at hk
    rw [Bool.and_eq_true, mayB_iff] at hk
    rw [show adj.getD i [] = adj[i] by simp [List.getD, hi]]
    exact hk.1
  · rw [List.getD_eq_getElem?_getD, List.getElem?_eq_none hi]
    exact isSet_nil
theorem set_nodup {l : List Int} (h : IsSet l) : l.Nodup := h.1.imp fun hab e => by omega
theorem may_len {right : Int} {adj : List (List Int)} (h : mayM right adj = true) (i : Nat) : (adj.getD i []).length ≤ 64 := by
  have hb := may_bounds h
  have h1 := nodup_le (b := (List.range right.toNat).map Int.ofNat) (set_nodup (may_set h i)) fun x hx => by
    obtain ⟨r, e, hr⟩ := onR_of_may h i x hx
    rw [e]
    exact List.mem_map.2 ⟨r, List.mem_range.2 hr, rfl⟩
  rw [List.length_map, List.length_range] at h1
  omega
theorem set_one {x : Int} (h : Fit x) : IsSet [x] := ⟨by simp, fun y hy => by rw [List.mem_singleton.1 hy]; exact h⟩

/-- Who has been had by the first k. -/
def usedL (hs : Nat → Int) : Nat → List Int
  | 0 => []
  | k + 1 => if hs k = -1 then usedL hs k else unionL (usedL hs k) [hs k]
theorem used_set (hs : Nat → Int) : ∀ k, IsSet (usedL hs k)
  | 0 => isSet_nil
  | k + 1 => by
    unfold usedL
    split
    · exact used_set hs k
    · exact union_set _ _
theorem used_mem {R : Nat} {adj : List (List Int)} {hs : Nat → Int} (hm : Mat R adj hs) (hR : R ≤ 64) : ∀ k, k ≤ adj.length → ∀ x, x ∈ usedL hs k ↔ ∃ i, i < k ∧ hs i = x ∧ x ≠ -1
  | 0, _, x => by simp [usedL]
  | k + 1, hk, x => by
    have ih := used_mem hm hR k (by omega) x
    unfold usedL
    split
    · rename_i e
      rw [ih]
      constructor
      · rintro ⟨i, hi, h⟩
        exact ⟨i, by omega, h⟩
      · rintro ⟨i, hi, h1, h2⟩
        refine ⟨i, ?_, h1, h2⟩
        rcases Nat.lt_or_ge i k with h | h
        · exact h
        · have : i = k := by omega
          subst this
          exact absurd (h1.symm.trans e) h2
    · rename_i e
      obtain ⟨r, hr, e1, _⟩ := (hm.ok k (by omega)).resolve_left e
      rw [mem_union (used_set hs k) (set_one (by rw [e1]; unfold Fit; omega)), ih, List.mem_singleton]
      constructor
      · rintro (⟨i, hi, h⟩ | h)
        · exact ⟨i, by omega, h⟩
        · exact ⟨k, by omega, h.symm, by rw [h]; exact e⟩
      · rintro ⟨i, hi, h1, h2⟩
        rcases Nat.lt_or_ge i k with h | h
        · exact .inl ⟨i, h, h1, h2⟩
        · have : i = k := by omega
          subst this
          exact .inr h1.symm
theorem used_new {R : Nat} {adj : List (List Int)} {hs : Nat → Int} (hm : Mat R adj hs) (hR : R ≤ 64) {k : Nat} (hk : k < adj.length) (h : hs k ≠ -1) : hs k ∉ usedL hs k := by
  rw [used_mem hm hR k (by omega)]
  rintro ⟨i, hi, e, _⟩
  have := hm.inj i k (by omega) hk e (by rw [e]; exact h)
  omega
theorem used_len {R : Nat} {adj : List (List Int)} {hs : Nat → Int} (hm : Mat R adj hs) (hR : R ≤ 64) : ∀ k, k ≤ adj.length → (usedL hs k).length = cntP k fun i => decide (hs i ≠ -1)
  | 0, _ => rfl
  | k + 1, hk => by
    have ih := used_len hm hR k (by omega)
    rw [cntP_succ, ← ih, show usedL hs (k + 1) = if hs k = -1 then usedL hs k else unionL (usedL hs k) [hs k] from rfl]
    split
    · rename_i e
      rw [e]
      simp
    · rename_i e
      obtain ⟨r, hr, e1, _⟩ := (hm.ok k (by omega)).resolve_left e
      have hn := used_new hm hR (k := k) (by omega) e
      have hs1 : IsSet [hs k] := set_one (by rw [e1]; unfold Fit; omega)
      rw [len_split (used_set hs k) hs1 (union_set _ _) (fun x hx hx2 => hn (by rw [← List.mem_singleton.1 hx2]; exact hx)) (mem_union (used_set hs k) hs1)]
      simp [e]
theorem refhas_is (v : Value) (l : List Int) (x : Int) (b : Bool) (h : hasB l x = b) (w : World) (hr : Row w w.heap.size v l) (hl : l.length ≤ 64) :
    Calls Try.prog 32 #[v, .int .i64 x] w (Says w b) := by
  subst h
  exact refhas_any v l x w hr (by omega)

set_option maxHeartbeats 4000000 in
set_option maxRecDepth 100000 in
theorem matches_true (right : Int) (va vl : Value) (adj : List (List Int)) (hs : Nat → Int) (N : Nat) (w : World) (hr : Rows2 w w.heap.size va adj) (hl : Row w w.heap.size vl ((List.range adj.length).map hs)) (hmay : mayM right adj = true) (hm : Mat right.toNat adj hs) (hN : N = msize adj hs) :
    Calls Try.prog 19 #[.int .i64 right, va, vl, .int .i64 N] w (Says w true) := by
  obtain ⟨hr0, hr64, hn64⟩ := may_bounds hmay
  have hR : right.toNat ≤ 64 := by omega
  obtain ⟨A, c, rfl, hcap, hcell⟩ := hr
  obtain ⟨A2, c2, rfl, hcap2, hcell2⟩ := hl
  rw [show ((List.range adj.length).map hs).length = adj.length by simp] at *
  have Hcell2 : Hid (∀ k, k < adj.length → ∃ ad : Addr, A2 = some ad ∧ ad.block < w.heap.size ∧ w.cell? (ad.add k) = some (.int .i64 (hs k))) := Lib.hid fun k hk => by
    have := hcell2 k hk
    rwa [show ((List.range adj.length).map hs).getD k 0 = hs k by simp [List.getD, hk]] at this
  have Hcell := Lib.hid hcell
  have Hm := Lib.hid hm
  have Hset := Lib.hid (may_set hmay)
  have Hlen := Lib.hid (may_len hmay)
  have Hend : Hid ((usedL hs adj.length).length = N) := Lib.hid ((used_len hm hR adj.length (Nat.le_refl _)).trans hN.symm)
  have hN64 : (N : Int) ≤ 64 := by
    have := cntP_le (fun i => decide (hs i ≠ -1)) adj.length
    unfold msize at hN
    omega
  clear hcell hcell2 hm hmay hN
  have HB0 := Lib.hid ((Below.refl w.heap.size w).alloc (Nat.le_refl _) (.cells #[] 3))
  have HR0 := Lib.hid (Row.lit0 w).here
  go_enter Try.func19, Try.ntmps19
  go_wp2
  go_loopw [9, 10] (fun vu vi wr => ∃ k : Nat, vi = .int .i64 k ∧ k ≤ adj.length ∧ Row wr wr.heap.size vu (usedL hs k) ∧ Below w.heap.size w wr) (fun _ vi _ => adj.length - (intOf vi).toNat)
  case atStart => exact ⟨0, rfl, Nat.zero_le _, HR0.out, HB0.out⟩
  case round =>
    clear HB0 HR0
    obtain ⟨k, rfl, hk, hu, hbr⟩ := hrel
    have Hu := Lib.hid hu
    have Hbr := Lib.hid hbr
    clear hu hbr
    by_cases hlt : k < adj.length
    · have hkI : (k : Int) < (adj.length : Int) := by omega
      obtain ⟨ad2, hA2, hab2, hc2⟩ := Hcell2.out k hlt
      subst hA2
      have g1 := (Hbr.out.cell (p := ad2.add k) (by rw [add_block]; exact hab2)).trans hc2
      by_cases hx : hs k = -1
      · have hnext : usedL hs (k + 1) = usedL hs k := if_pos hx
        have Hnext := Lib.hid hnext
        rw [hx] at g1
        clear hx hnext hc2
        go_wp2
        go_roundw
        case rel => exact ⟨k + 1, by go_num, by omega, by rw [Hnext.out]; exact Hu.out, Hbr.out⟩
        case measure => simp [intOf]; omega
      · obtain ⟨ad, u, hA, hab, hcu, hru⟩ := Hcell.out k hlt
        subst hA
        have g2 := (Hbr.out.cell (p := ad.add k) (by rw [add_block]; exact hab)).trans hcu
        obtain ⟨r, hrR, hrx, hgoes⟩ := (Hm.out.ok k hlt).resolve_left hx
        have Hnew := Lib.hid (used_new Hm.out hR hlt hx)
        have Hnext : Hid (usedL hs (k + 1) = unionL (usedL hs k) [hs k]) := Lib.hid (if_neg hx)
        have Hul : Hid ((usedL hs k).length ≤ 64) := Lib.hid (by
          rw [used_len Hm.out hR k hk]
          have := cntP_le (fun i => decide (hs i ≠ -1)) k
          omega)
        have hx2 : ¬ ((r : Int) = -1) := by omega
        rw [hrx] at g1
        have Hhas1 : Hid (hasB (adj.getD k []) (r : Int) = true) := Lib.hid ((has_iff (Hset.out k) _).2 hgoes)
        have Hhas2 : Hid (hasB (usedL hs k) (r : Int) = false) := Lib.hid (by
          rw [Bool.eq_false_iff]
          intro h
          have := (has_iff (used_set hs k) _).1 h
          rw [← hrx] at this
          exact Hnew.out this)
        have Hl := Lib.hid (Hlen.out k)
        have Hru := Lib.hid hru
        rw [hrx] at Hnext
        have HX := Lib.hid hrx
        have HUs := Lib.hid (used_set hs k)
        have Hgo := Lib.hid hgoes
        clear hx hc2 hcu hru hgoes Hnew hrx
        generalize adj.getD k [] = lk at *
        generalize usedL hs k = uk at *
        obtain ⟨Au, cu, rfl, _⟩ := id Hru.out
        obtain ⟨Av, cv, hv, _⟩ := id Hu.out
        subst hv
        go_wp2
        refine wp_region_any (by kernel_rfl) ?_
        change wpAny _ _ _ _ _ _ _ (World.drew _)
        refine wpAny_take (i := 0) (v := ?_) rfl (by kernel_rfl) (by kernel_rfl) (by kernel_rfl) (fun _ _ _ h => h) (Or.inl ⟨by rfl, ?_⟩) ?_
        rotate_left
        · intro w; go_simp; try with_reducible rfl
        (refine wpAny_act (b := ?_) ?_ ?_; rotate_left; (go_simp; with_reducible rfl))
        refine wpAny_take (i := 1) (v := ?_) rfl (by kernel_rfl) (by kernel_rfl) (by kernel_rfl) (fun _ _ _ h => h) (Or.inl ⟨by rfl, ?_⟩) ?_
        rotate_left
        · intro w; go_simp; try with_reducible rfl
        (refine wpAny_act (b := ?_) ?_ ?_; rotate_left; (go_simp; with_reducible rfl))
        refine wpAny_take (i := 2) (v := ?_) rfl (by kernel_rfl) (by kernel_rfl) (by kernel_rfl) (fun _ _ _ h => h) (Or.inl ⟨by rfl, ?_⟩) ?_
        rotate_left
        · intro w; go_simp; try with_reducible rfl
        (refine wpAny_act (b := ?_) ?_ ?_; rotate_left; (go_simp; with_reducible rfl))
        refine wpAny_take (i := 4) (v := ?_) rfl (by kernel_rfl) (by kernel_rfl) (by kernel_rfl) (fun _ _ _ h => h) (Or.inl ⟨by rfl, ?_⟩) ?_
        rotate_left
        · intro w; go_simp; try with_reducible rfl
        (refine wpAny_act (b := ?_) ?_ ?_; rotate_left; (go_simp; with_reducible rfl))
        refine wpAny_take (i := 5) (v := ?_) rfl (by kernel_rfl) (by kernel_rfl) (by kernel_rfl) (fun _ _ _ h => h) (Or.inl ⟨by rfl, ?_⟩) ?_
        rotate_left
        · intro w; go_simp; try with_reducible rfl
        (refine wpAny_act (b := ?_) ?_ ?_; rotate_left; (go_simp; with_reducible rfl))
        refine wpAny_take (i := 6) (v := ?_) rfl (by kernel_rfl) (by kernel_rfl) (by kernel_rfl) (fun _ _ _ h => h) (Or.inl ⟨by rfl, ?_⟩) ?_
        rotate_left
        · intro w; go_simp; try with_reducible rfl
        (refine wpAny_act (b := ?_) ?_ ?_; rotate_left; (go_simp; with_reducible rfl))
        refine wpAny_ready (rs := [3, 7]) (by kernel_rfl) (by simp) ?_
        refine AllReady.cons rfl (fun K hK => ?_) (AllReady.cons rfl (fun K hK => ?_) AllReady.nil)
        go_simp
        refine hK _ _ ?_
        clear hK K
        refine wpAny_ready (rs := [7]) (by kernel_rfl) (by simp) ?_
        refine AllReady.cons rfl (fun K hK => ?_) AllReady.nil
        go_simp
        refine hK _ _ ?_
        clear hK K
        rotate_left
        go_simp
        refine hK _ _ ?_
        clear hK K
        refine wpAny_ready (rs := [3]) (by kernel_rfl) (by simp) ?_
        refine AllReady.cons rfl (fun K hK => ?_) AllReady.nil
        go_simp
        refine hK _ _ ?_
        clear hK K
        all_goals
          refine wpAny_ready (rs := [8]) (by kernel_rfl) (by simp) ?_
          refine AllReady.cons rfl (fun K hK => ?_) AllReady.nil
          go_simp
          refine (refhas_is _ lk (r : Int) true Hhas1.out _ ((Hru.out.below Hbr.out.drew).mono (by have := Hbr.out.size; simpa using this)) Hl.out).mono ?_
          rintro e w1 ⟨rfl, hb1⟩
          refine hK _ _ ?_
          clear hK K
          have Hb1 := Lib.hid hb1
          have Hb1' := Lib.hid (Hbr.out.drew.trans (hb1.mono (by have := Hbr.out.size; simpa using this)))
          have Hu1 := Lib.hid ((Hu.out.up (below_drew wr)).up hb1)
          clear hb1 g1
          obtain ⟨ad2', hA2, _, hc2⟩ := Hcell2.out k hlt
          injection hA2 with hA2
          subst hA2
          have g1 := (Hb1'.out.cell (p := ad2.add k) (by rw [add_block]; exact hab2)).trans (hc2.trans (by rw [HX.out]))
          clear hc2
          refine wpAny_take (i := 9) (v := ?_) rfl (by kernel_rfl) (by kernel_rfl) (by kernel_rfl) (fun _ _ _ h => h) (Or.inl ⟨by rfl, ?_⟩) ?_
          rotate_left
          · intro w; go_simp; try with_reducible rfl
          (refine wpAny_act (b := ?_) ?_ ?_; rotate_left; (go_simp; with_reducible rfl))
          refine wpAny_take (i := 10) (v := ?_) rfl (by kernel_rfl) (by kernel_rfl) (by kernel_rfl) (fun _ _ _ h => h) (Or.inl ⟨by rfl, ?_⟩) ?_
          rotate_left
          · intro w; go_simp; try with_reducible rfl
          (refine wpAny_act (b := ?_) ?_ ?_; rotate_left; (go_simp; with_reducible rfl))
          refine wpAny_take (i := 11) (v := ?_) rfl (by kernel_rfl) (by kernel_rfl) (by kernel_rfl) (fun _ _ _ h => h) (Or.inl ⟨by rfl, ?_⟩) ?_
          rotate_left
          · intro w; go_simp; try with_reducible rfl
          (refine wpAny_act (b := ?_) ?_ ?_; rotate_left; (go_simp; with_reducible rfl))
          refine wpAny_take (i := 12) (v := ?_) rfl (by kernel_rfl) (by kernel_rfl) (by kernel_rfl) (fun _ _ _ h => h) (Or.inl ⟨by rfl, ?_⟩) ?_
          rotate_left
          · intro w; go_simp; try with_reducible rfl
          (refine wpAny_act (b := ?_) ?_ ?_; rotate_left; (go_simp; with_reducible rfl))
          refine wpAny_take (i := 13) (v := ?_) rfl (by kernel_rfl) (by kernel_rfl) (by kernel_rfl) (fun _ _ _ h => h) (Or.inl ⟨by rfl, ?_⟩) ?_
          rotate_left
          · intro w; go_simp; try with_reducible rfl
          (refine wpAny_act (b := ?_) ?_ ?_; rotate_left; (go_simp; with_reducible rfl))
          refine wpAny_take (i := 14) (v := ?_) rfl (by kernel_rfl) (by kernel_rfl) (by kernel_rfl) (fun _ _ _ h => h) (Or.inl ⟨by rfl, ?_⟩) ?_
          rotate_left
          · intro w; go_simp; try with_reducible rfl
          (refine wpAny_act (b := ?_) ?_ ?_; rotate_left; (go_simp; with_reducible rfl))
          refine wpAny_ready (rs := [15]) (by kernel_rfl) (by simp) ?_
          refine AllReady.cons rfl (fun K hK => ?_) AllReady.nil
          go_simp
          refine hK _ _ ?_
          clear hK K
          refine wpAny_ready (rs := [16]) (by kernel_rfl) (by simp) ?_
          refine AllReady.cons rfl (fun K hK => ?_) AllReady.nil
          go_simp
          refine (refhas_is _ uk (r : Int) false Hhas2.out _ Hu1.out Hul.out).mono ?_
          rintro e w2 ⟨rfl, hb2⟩
          refine hK _ _ ?_
          clear hK K g1
          have Hb2' := Lib.hid (Hb1'.out.trans (hb2.mono Hb1'.out.size))
          have Hu2 := Lib.hid (Hu1.out.up hb2)
          clear hb2 Hu1 Hb1' Hb1
          obtain ⟨ad2', hA2, _, hc2⟩ := Hcell2.out k hlt
          injection hA2 with hA2
          subst hA2
          have g1 := (Hb2'.out.cell (p := ad2.add k) (by rw [add_block]; exact hab2)).trans (hc2.trans (by rw [HX.out]))
          clear hc2
          refine wpAny_take (i := 17) (v := ?_) rfl (by kernel_rfl) (by kernel_rfl) (by kernel_rfl) (fun _ _ _ h => h) (Or.inl ⟨by rfl, ?_⟩) ?_
          rotate_left
          · intro w; go_simp; try with_reducible rfl
          (refine wpAny_act (b := ?_) ?_ ?_; rotate_left; (go_simp; with_reducible rfl))
          refine wpAny_done (by kernel_rfl) ?_ _
          have Hlit := Lib.hid ((Row.lit1 w2 (r : Int)).here)
          have Hu3 := Lib.hid (Hu2.out.upA (.cells #[.int .i64 (r : Int)] 3))
          have Hb3 := Lib.hid (Hb2'.out.alloc Hb2'.out.size (.cells #[.int .i64 (r : Int)] 3))
          clear Hu2 Hb2'
          go_wp2_with fail
          refine (refunion_any _ _ uk [(r : Int)] _ Hu3.out Hlit.out (by have := Hul.out; omega) (by simp)).mono ?_
          rintro e w4 ⟨v4, rfl, hr4, hb4⟩
          have Hr4 := Lib.hid hr4
          have Hb4 := Lib.hid (Hb3.out.trans (hb4.mono Hb3.out.size))
          clear hr4 hb4 Hu3 Hlit Hb3 g1
          go_wp2
          go_roundw
          case rel => exact ⟨k + 1, by go_num, by omega, by rw [Hnext.out]; exact Hr4.out, Hb4.out⟩
          case measure => simp [intOf]; omega
    · have hkn : k = adj.length := by omega
      subst hkn
      obtain ⟨Av, cv, hv, _⟩ := id Hu.out
      subst hv
      have HE := Lib.hid Hend.out
      generalize usedL hs adj.length = uk at *
      go_wp2
      go_ret
      exact ⟨congrArg (fun b => Ending.returned (.bool b)) (show ((uk.length : Int) == (N : Int)) = true by rw [HE.out]; simp), Hbr.out⟩

end Wp
end Go.Proofs.Ytjhkmilfhecdfaa
