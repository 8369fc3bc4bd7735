/- The search for one on the right: give, walked; what it leaves is what KPure says. -/
import Derived.Test.YtmgfhehnehcmpaaKSrch
namespace Go.Proofs.Ytmgfhehnehcmpaa
open Go.RowKit
namespace Wp

theorem wpAny_act {P : Program} {md : Region.Mode} {ops : Array Oper} {Q : Exit → Act → World → Prop} {fuel : Nat} {listed : Array Bool} {a b : Act} {w : World} (h : a = b) (k : wpAny P md ops Q fuel listed b w) : wpAny P md ops Q fuel listed a w := h ▸ k
theorem cntP_lt {p q : Nat → Bool} (r : Nat) (hp : p r = false) (hq : q r = true) : ∀ {n : Nat}, r < n → (∀ i, i < n → p i = true → q i = true) → cntP n p < cntP n q
  | n + 1, hr, h => by
    rw [cntP_succ, cntP_succ]
    by_cases e : r = n
    · subst e
      have := cntP_mono (n := r) fun i hi => h i (by omega)
      rw [hp, hq]
      simp
      omega
    · have ih := cntP_lt r hp hq (n := n) (by omega) fun i hi => h i (by omega)
      have := h n (by omega)
      cases hp' : p n
      · simp; omega
      · simp [this hp']; omega
theorem below_drew (w : World) : Below w.heap.size w w.drew := ⟨rfl, rfl, rfl, Nat.le_refl _, fun _ _ => rfl⟩
theorem only3_drew1 {gh go g : Nat} {w w' : World} (h : Only3 gh go g w w') : Only3 gh go g w w'.drew := ⟨h.os, h.tape, h.output, h.size, h.block⟩
theorem only3_drew {gh go g : Nat} {w w' : World} (h : Only3 gh go g w w') (n : Nat) : Only3 gh go g w (w'.drewN n) := ⟨h.os, h.tape, h.output, h.size, h.block⟩

set_option maxHeartbeats 4000000 in
set_option maxRecDepth 100000 in
theorem give_any (B gh go g bx R : Nat) (adj : List (List Int)) (adjv : Value) (f : Value) (hOn : OnR R adj) (m : Nat) : ∀ (w : World) (i : Nat) (hs os : Nat → Int) (al : Nat → Bool), GS w adjv adj B gh go g bx R f hs os al → B ≤ w.heap.size → i < adj.length → Pairs R adj hs os → (hs i = -1 ∨ ∃ q : Nat, hs i = (q : Int) ∧ al q = true) → cntP R (fun r => !al r) < m →
    Calls Try.prog 30 #[.agg #[adjv, .slice (some ⟨gh, 0, none⟩) adj.length adj.length, .slice (some ⟨go, 0, none⟩) R R], .int .i64 i, f] w (Gave w adjv adj B gh go g bx R i f hs os al) := by
  induction m with
  | zero => intro w i hs os al _ _ _ _ _ hm; omega
  | succ m ih =>
  intro w i hs os al hS hB hi hP hpre hm
  have HS := Lib.hid hS
  have HP := Lib.hid hP
  have Hpre := Lib.hid hpre
  have Hm := Lib.hid hm
  have Hih := Lib.hid ih
  clear ih hP hpre hm
  obtain ⟨rfl, hbx, _, _, _⟩ := hS.r
  obtain ⟨A, c, hv, hcap, hcell⟩ := hS.rows
  subst hv
  obtain ⟨ad, u, hA, hab, hcu, hru⟩ := hcell i hi
  subst hA
  obtain ⟨Au, cu, rfl, hulc, hul⟩ := hru
  obtain ⟨l, hl⟩ : ∃ l, adj.getD i [] = l := ⟨_, rfl⟩
  rw [hl] at hcu hul hulc
  have hlm : (l.length : Int) ≤ 9223372036854775807 := by
    have h1 := hulc.1
    have h2 := hulc.2.1
    unfold maxLen at h2
    omega
  have Hl := Lib.hid hl
  have Hul := Lib.hid hul
  have Hcu := Lib.hid hcu
  have hghw := World.rowIs.lt HS.out.h
  have hgow := World.rowIs.lt HS.out.o
  have hgw := World.rowIs.lt HS.out.r.2.2.1
  obtain ⟨w1, e1⟩ : ∃ w1, w1 = w.alloc (.cells #[.slice (some ad) adj.length c, .slice (some ⟨gh, 0, none⟩) adj.length adj.length, .slice (some ⟨go, 0, none⟩) R R] 44) := ⟨_, rfl⟩
  have Hb1 : Hid (Below w.heap.size w w1) := by rw [e1]; exact (Below.refl _ w).alloc (Nat.le_refl _) _
  have HS1 := Lib.hid (HS.out.below hB Hb1.out)
  have Hbp : Hid (∀ j, w1.cell? ⟨w.heap.size, j, none⟩ = #[.slice (some ad) adj.length c, .slice (some ⟨gh, 0, none⟩) adj.length adj.length, .slice (some ⟨go, 0, none⟩) R R][j]?) := by
    intro j
    rw [e1]
    exact (Blk.new w _ _).cell j
  have c0 := (Hb1.out.cell (p := ad.add i) (by rw [add_block]; omega)).trans hcu
  have hiI : (i : Int) < (adj.length : Int) := by omega
  have HE := Lib.hid e1
  rw [e1] at c0
  have hsz1 : Hid (w1.heap.size = w.heap.size + 1) := by show _ = _; rw [e1]; simp
  clear hS hcell hul hl hcu
  go_enter Try.func30, Try.ntmps30
  go_wp2
  rw [← HE.out]
  clear e1 c0
  go_loopw [15] (fun vi wr => ∃ (k : Nat) (al' : Nat → Bool), vi = .int .i64 k ∧ k ≤ l.length ∧ GS wr (.slice (some ad) adj.length c) adj B gh go g bx R (.func (.func 43) #[] #[.pointer (some ⟨bx, 0, none⟩)]) hs os al' ∧ Tried adj os al i k al' ∧ Only3 gh go g w1 wr) (fun vi _ => l.length - (intOf vi).toNat)
  case atStart => exact ⟨0, al, rfl, Nat.zero_le _, HS1.out, tried_zero, Only3.refl _ _ _ _⟩
  case round =>
    obtain ⟨k, al', rfl, hk, hgs, htr, honly⟩ := hrel
    have Hgs := Lib.hid hgs
    have Htr := Lib.hid htr
    have Hon := Lib.hid honly
    clear hgs htr honly HS1
    have HOn := Lib.hid (Only3.of_below (gh := gh) (go := go) (g := g) Hb1.out |>.trans Hon.out)
    by_cases hlt : k < l.length
    · obtain ⟨al2, hA2, hab2, hck⟩ := Hul.out k hlt
      subst hA2
      obtain ⟨r, hr, hrR⟩ := hOn i (l.getD k 0) (by rw [Hl.out]; simp [List.getD, hlt])
      have Hmem : Hid ((adj.getD i [])[k]? = some (r : Int)) := by
        show _ = _
        rw [Hl.out, List.getElem?_eq_getElem hlt, ← hr]
        simp [List.getD, hlt]
      rw [hr] at hck
      have Hbel : Hid (Below B w wr) := HOn.out.below hB HS.out.bh HS.out.bo HS.out.bg
      have g0 : wr.cell? (al2.add k) = some (.int .i64 (r : Int)) := (Hbel.out.cell (by rw [add_block]; exact hab2)).trans hck
      have Hbxx : Hid (∀ W, Only3 gh go g w1 W → ∀ j, W.cell? ⟨w.heap.size, j, none⟩ = #[.slice (some ad) adj.length c, .slice (some ⟨gh, 0, none⟩) adj.length adj.length, .slice (some ⟨go, 0, none⟩) R R][j]?) := fun W hW j =>
        (World.cell?_of_block (hW.block w.heap.size (by have := hsz1.out; omega) (by omega) (by omega) (by omega))).trans (Hbp.out j)
      have hkI : (k : Int) < (l.length : Int) := by omega
      clear hck hr
      have g1 := Hbxx.out _ Hon.out 0
      have g2 := Hbxx.out _ Hon.out 1
      have g3 := Hbxx.out _ Hon.out 2
      have Hre := Lib.hid (fun (W : World) (b : Bool) (h : al' r = b) (hW : GS W (.slice (some ad) adj.length c) adj B gh go g bx R (.func (.func 43) #[] #[.pointer (some ⟨bx, 0, none⟩)]) hs os al') => reached_is r R bx g _ al' b h W hW.r hrR)
      have g4 := NumsK.at Hgs.out.o hrR
      have hgo : go < wr.heap.size := World.rowIs.lt Hgs.out.o
      clear hbx
      have hrRI : (r : Int) < (R : Int) := by omega
      rcases ha : al' r with _ | _
      · have Ha := Lib.hid ha
        clear ha
        have HG2 := Lib.hid (Hgs.out.asked r)
        have Hb2 := Lib.hid (only3_set HOn.out g r (.bool true) (.inr (.inr rfl)))
        go_wp2
        refine wp_region_any (by kernel_rfl) ?_
        change wpAny _ _ _ _ _ _ _ (World.drew _)
        refine wpAny_take (i := 0) (v := ?_) rfl (by kernel_rfl) (by kernel_rfl) (by kernel_rfl) (fun _ _ _ h => h) (Or.inl ⟨by rfl, ?_⟩) ?_
        rotate_left
        · intro w; go_simp; try with_reducible rfl
        (refine wpAny_act (b := ?_) ?_ ?_; rotate_left; (go_simp; with_reducible rfl))
        refine wpAny_take (i := 1) (v := ?_) rfl (by kernel_rfl) (by kernel_rfl) (by kernel_rfl) (fun _ _ _ h => h) (Or.inl ⟨by rfl, ?_⟩) ?_
        rotate_left
        · intro w; go_simp; try with_reducible rfl
        (refine wpAny_act (b := ?_) ?_ ?_; rotate_left; (go_simp; with_reducible rfl))
        refine wpAny_ready (rs := [2]) (by kernel_rfl) (by simp) ?_
        refine AllReady.cons rfl (fun K hK => ?_) AllReady.nil
        go_simp
        refine (Hre.out _ _ Ha.out (Hgs.out.below (Nat.le_trans hB HOn.out.size) (below_drewN (Below.refl _ _) 1))).mono ?_
        rintro e w' ⟨rfl, rfl⟩
        refine hK _ _ ?_
        clear hK K
        refine wpAny_take (i := 3) (v := ?_) rfl (by kernel_rfl) (by kernel_rfl) (by kernel_rfl) (fun _ _ _ h => h) (Or.inl ⟨by rfl, ?_⟩) ?_
        rotate_left
        · intro w; go_simp; try with_reducible rfl
        (refine wpAny_act (b := ?_) ?_ ?_; rotate_left; (go_simp; with_reducible rfl))
        refine wpAny_take (i := 4) (v := ?_) rfl (by kernel_rfl) (by kernel_rfl) (by kernel_rfl) (fun _ _ _ h => h) (Or.inl ⟨by rfl, ?_⟩) ?_
        rotate_left
        · intro w; go_simp; try with_reducible rfl
        (refine wpAny_act (b := ?_) ?_ ?_; rotate_left; (go_simp; with_reducible rfl))
        refine wpAny_take (i := 5) (v := ?_) rfl (by kernel_rfl) (by kernel_rfl) (by kernel_rfl) (fun _ _ _ h => h) (Or.inl ⟨by rfl, ?_⟩) ?_
        rotate_left
        · intro w; go_simp; try with_reducible rfl
        (refine wpAny_act (b := ?_) ?_ ?_; rotate_left; (go_simp; with_reducible rfl))
        refine wpAny_take (i := 7) (v := ?_) rfl (by kernel_rfl) (by kernel_rfl) (by kernel_rfl) (fun _ _ _ h => h) (Or.inl ⟨by rfl, ?_⟩) ?_
        rotate_left
        · intro w; go_simp; try with_reducible rfl
        (refine wpAny_act (b := ?_) ?_ ?_; rotate_left; (go_simp; with_reducible rfl))
        have Hon2 : Hid (Only3 gh go g w1 ((wr.drewN 1).setCell ⟨g, r, none⟩ (.bool true))) := only3_set (only3_drew Hon.out 1) g r _ (.inr (.inr rfl))
        have Hgs2 := Lib.hid ((Hgs.out.below (Nat.le_trans hB HOn.out.size) (below_drewN (Below.refl _ _) 1)).asked r)
        have HOn2 : Hid (Only3 gh go g w ((wr.drewN 1).setCell ⟨g, r, none⟩ (.bool true))) := only3_set (only3_drew HOn.out 1) g r _ (.inr (.inr rfl))
        have HW2 : Hid (w.heap.size ≤ ((wr.drewN 1).setCell ⟨g, r, none⟩ (.bool true)).heap.size) := HOn2.out.size
        have Hal : Hid (al r = false) := by
          show _ = _
          rcases h : al r with _ | _
          · rfl
          · have := Htr.out.up r h
            rw [Ha.out] at this
            cases this
        have Hgoes : Hid (Goes adj i r) := List.mem_iff_getElem?.2 ⟨k, Hmem.out⟩
        have Hcnt : Hid (cntP R (fun x => !updB al' r x) < m) := by
          have h1 : cntP R (fun x => !updB al' r x) < cntP R (fun x => !al x) := cntP_lt r (by simp [updB]) (by simp [Hal.out]) hrR fun x _ hx => by
            rcases h : al x with _ | _
            · rfl
            · have h2 := Htr.out.up x h
              unfold updB at hx
              split at hx
              · cases hx
              · rw [h2] at hx; cases hx
          have := Hm.out
          show _ < _
          omega
        clear g0 g1 g2 g3 g4
        generalize hW2 : (wr.drewN 1).setCell ⟨g, r, none⟩ (.bool true) = w2 at *
        clear hW2
        have g1 := Hbxx.out _ Hon2.out 0
        have g2 := Hbxx.out _ Hon2.out 1
        have g3 := Hbxx.out _ Hon2.out 2
        have g4 := NumsK.at Hgs2.out.o hrR
        refine wpAny_ready (rs := [6]) (by kernel_rfl) (by simp) ?_
        refine AllReady.cons rfl (fun K hK => ?_) AllReady.nil
        go_simp
        refine hK _ _ ?_
        clear hK K
        refine wpAny_take (i := 8) (v := ?_) rfl (by kernel_rfl) (by kernel_rfl) (by kernel_rfl) (fun _ _ _ h => h) (Or.inl ⟨by rfl, ?_⟩) ?_
        rotate_left
        · intro w; go_simp; try with_reducible rfl
        (refine wpAny_act (b := ?_) ?_ ?_; rotate_left; (go_simp; with_reducible rfl))
        refine wpAny_ready (rs := [9]) (by kernel_rfl) (by simp) ?_
        refine AllReady.cons rfl (fun K hK => ?_) AllReady.nil
        go_simp
        refine hK _ _ ?_
        clear hK K
        by_cases ho : os r = -1
        · rw [ho]
          clear g4
          refine wpAny_take (i := 10) (v := ?_) rfl (by kernel_rfl) (by kernel_rfl) (by kernel_rfl) (fun _ _ _ h => h) (Or.inl ⟨by rfl, ?_⟩) ?_
          rotate_left
          · intro w; go_simp; try with_reducible rfl
          (refine wpAny_act (b := ?_) ?_ ?_; rotate_left; (go_simp; with_reducible rfl))
          refine wpAny_take (i := 11) (v := ?_) rfl (by kernel_rfl) (by kernel_rfl) (by kernel_rfl) (fun _ _ _ h => h) (Or.inl ⟨by rfl, ?_⟩) ?_
          rotate_left
          · intro w; go_simp; try with_reducible rfl
          (refine wpAny_act (b := ?_) ?_ ?_; rotate_left; (go_simp; with_reducible rfl))
          refine wpAny_take (i := 12) (v := undef) rfl (by kernel_rfl) (by kernel_rfl) (by kernel_rfl) (fun _ _ _ h => h) (Or.inr ⟨by simp [Region.wanted, yielded, go_sem, undef], rfl⟩) ?_
          (refine wpAny_act (b := ?_) ?_ ?_; rotate_left; (go_simp; with_reducible rfl))
          refine wpAny_take (i := 13) (v := undef) rfl (by kernel_rfl) (by kernel_rfl) (by kernel_rfl) (fun _ _ _ h => h) (Or.inr ⟨by simp [Region.wanted, yielded, go_sem, undef], rfl⟩) ?_
          (refine wpAny_act (b := ?_) ?_ ?_; rotate_left; (go_simp; with_reducible rfl))
          refine wpAny_take (i := 14) (v := undef) rfl (by kernel_rfl) (by kernel_rfl) (by kernel_rfl) (fun _ _ _ h => h) (Or.inr ⟨by simp [Region.wanted, yielded, go_sem, undef], rfl⟩) ?_
          (refine wpAny_act (b := ?_) ?_ ?_; rotate_left; (go_simp; with_reducible rfl))
          refine wpAny_take (i := 15) (v := undef) rfl (by kernel_rfl) (by kernel_rfl) (by kernel_rfl) (fun _ _ _ h => h) (Or.inr ⟨by simp [Region.wanted, yielded, go_sem, undef], rfl⟩) ?_
          (refine wpAny_act (b := ?_) ?_ ?_; rotate_left; (go_simp; with_reducible rfl))
          refine wpAny_take (i := 16) (v := undef) rfl (by kernel_rfl) (by kernel_rfl) (by kernel_rfl) (fun _ _ _ h => h) (Or.inr ⟨by simp [Region.wanted, yielded, go_sem, undef], rfl⟩) ?_
          (refine wpAny_act (b := ?_) ?_ ?_; rotate_left; (go_simp; with_reducible rfl))
          refine wpAny_take (i := 17) (v := undef) rfl (by kernel_rfl) (by kernel_rfl) (by kernel_rfl) (fun _ _ _ h => h) (Or.inr ⟨by simp [Region.wanted, yielded, go_sem, undef], rfl⟩) ?_
          (refine wpAny_act (b := ?_) ?_ ?_; rotate_left; (go_simp; with_reducible rfl))
          refine wpAny_take (i := 18) (v := undef) rfl (by kernel_rfl) (by kernel_rfl) (by kernel_rfl) (fun _ _ _ h => h) (Or.inr ⟨by simp [Region.wanted, yielded, go_sem, undef], rfl⟩) ?_
          (refine wpAny_act (b := ?_) ?_ ?_; rotate_left; (go_simp; with_reducible rfl))
          refine wpAny_take (i := 19) (v := undef) rfl (by kernel_rfl) (by kernel_rfl) (by kernel_rfl) (fun _ _ _ h => h) (Or.inr ⟨by simp [Region.wanted, yielded, go_sem, undef], rfl⟩) ?_
          (refine wpAny_act (b := ?_) ?_ ?_; rotate_left; (go_simp; with_reducible rfl))
          refine wpAny_take (i := 20) (v := ?_) rfl (by kernel_rfl) (by kernel_rfl) (by kernel_rfl) (fun _ _ _ h => h) (Or.inl ⟨by rfl, ?_⟩) ?_
          rotate_left
          · intro w; go_simp; try with_reducible rfl
          (refine wpAny_act (b := ?_) ?_ ?_; rotate_left; (go_simp; with_reducible rfl))
          refine wpAny_take (i := 21) (v := ?_) rfl (by kernel_rfl) (by kernel_rfl) (by kernel_rfl) (fun _ _ _ h => h) (Or.inl ⟨by rfl, ?_⟩) ?_
          rotate_left
          · intro w; go_simp; try with_reducible rfl
          (refine wpAny_act (b := ?_) ?_ ?_; rotate_left; (go_simp; with_reducible rfl))
          refine wpAny_done (by kernel_rfl) ?_ _
          go_wp2
          have hbgh : w.heap.size ≠ gh := by omega
          have hbgo : w.heap.size ≠ go := by omega
          have hgg : gh ≠ go := HS.out.ho
          have g5 := NumsK.at Hgs2.out.h hi
          have g4 := NumsK.at Hgs2.out.o hrR
          have hfz : w2.frozen? ⟨gh, i, none⟩ = false := World.rowIs.frozen Hgs2.out.h i
          have hfz2 : w2.frozen? ⟨go, r, none⟩ = false := World.rowIs.frozen Hgs2.out.o r
          go_region
          go_wp2
          go_ret
          exact ⟨true, updI hs i r, updI os r i, updB al' r, rfl, (Hgs2.out.gave i r).below (Nat.le_trans (Nat.le_trans hB HW2.out) (by simp [World.setCell])) (below_drew _), only3_drew1 (only3_set (only3_set HOn2.out gh i _ (.inl rfl)) go r _ (.inr (.inl rfl))), fun _ => found_free HP.out hi hrR Hgoes.out ho Hal.out, fun h => by cases h⟩
        · obtain ⟨j, hj, hoj, hhj⟩ := (HP.out.r r hrR).resolve_left ho
          rw [hoj] at g4 ⊢
          have hj1 : ¬ ((j : Int) = -1) := by omega
          refine wpAny_take (i := 10) (v := ?_) rfl (by kernel_rfl) (by kernel_rfl) (by kernel_rfl) (fun _ _ _ h => h) (Or.inl ⟨by rfl, ?_⟩) ?_
          rotate_left
          · intro w; go_simp; try with_reducible rfl
          (refine wpAny_act (b := ?_) ?_ ?_; rotate_left; (go_simp; with_reducible rfl))
          refine wpAny_take (i := 11) (v := ?_) rfl (by kernel_rfl) (by kernel_rfl) (by kernel_rfl) (fun _ _ _ h => h) (Or.inl ⟨by rfl, ?_⟩) ?_
          rotate_left
          · intro w; go_simp; try with_reducible rfl
          (refine wpAny_act (b := ?_) ?_ ?_; rotate_left; (go_simp; with_reducible rfl))
          refine wpAny_take (i := 13) (v := ?_) rfl (by kernel_rfl) (by kernel_rfl) (by kernel_rfl) (fun _ _ _ h => h) (Or.inl ⟨by rfl, ?_⟩) ?_
          rotate_left
          · intro w; go_simp; try with_reducible rfl
          (refine wpAny_act (b := ?_) ?_ ?_; rotate_left; (go_simp; with_reducible rfl))
          refine wpAny_take (i := 15) (v := ?_) rfl (by kernel_rfl) (by kernel_rfl) (by kernel_rfl) (fun _ _ _ h => h) (Or.inl ⟨by rfl, ?_⟩) ?_
          rotate_left
          · intro w; go_simp; try with_reducible rfl
          (refine wpAny_act (b := ?_) ?_ ?_; rotate_left; (go_simp; with_reducible rfl))
          refine wpAny_take (i := 18) (v := ?_) rfl (by kernel_rfl) (by kernel_rfl) (by kernel_rfl) (fun _ _ _ h => h) (Or.inl ⟨by rfl, ?_⟩) ?_
          rotate_left
          · intro w; go_simp; try with_reducible rfl
          (refine wpAny_act (b := ?_) ?_ ?_; rotate_left; (go_simp; with_reducible rfl))
          refine wpAny_ready (rs := [12, 14]) (by kernel_rfl) (by simp) ?_
          refine AllReady.cons rfl (fun K hK => ?_) (AllReady.cons rfl (fun K hK => ?_) AllReady.nil)
          go_simp
          refine hK _ _ ?_
          clear hK K
          refine wpAny_ready (rs := [14]) (by kernel_rfl) (by simp) ?_
          refine AllReady.cons rfl (fun K hK => ?_) AllReady.nil
          go_simp
          refine hK _ _ ?_
          clear hK K
          refine wpAny_take (i := 16) (v := ?_) rfl (by kernel_rfl) (by kernel_rfl) (by kernel_rfl) (fun _ _ _ h => h) (Or.inl ⟨by rfl, ?_⟩) ?_
          rotate_left
          · intro w; go_simp; try with_reducible rfl
          (refine wpAny_act (b := ?_) ?_ ?_; rotate_left; (go_simp; with_reducible rfl))
          refine wpAny_ready (rs := [17]) (by kernel_rfl) (by simp) ?_
          refine AllReady.cons rfl (fun K hK => ?_) AllReady.nil
          go_simp
          refine hK _ _ ?_
          clear hK K
          rotate_left
          go_simp
          refine hK _ _ ?_
          clear hK K
          refine wpAny_take (i := 16) (v := ?_) rfl (by kernel_rfl) (by kernel_rfl) (by kernel_rfl) (fun _ _ _ h => h) (Or.inl ⟨by rfl, ?_⟩) ?_
          rotate_left
          · intro w; go_simp; try with_reducible rfl
          (refine wpAny_act (b := ?_) ?_ ?_; rotate_left; (go_simp; with_reducible rfl))
          refine wpAny_ready (rs := [12, 17]) (by kernel_rfl) (by simp) ?_
          refine AllReady.cons rfl (fun K hK => ?_) (AllReady.cons rfl (fun K hK => ?_) AllReady.nil)
          go_simp
          refine hK _ _ ?_
          clear hK K
          refine wpAny_ready (rs := [17]) (by kernel_rfl) (by simp) ?_
          refine AllReady.cons rfl (fun K hK => ?_) AllReady.nil
          go_simp
          refine hK _ _ ?_
          clear hK K
          rotate_left
          go_simp
          refine hK _ _ ?_
          clear hK K
          refine wpAny_ready (rs := [12]) (by kernel_rfl) (by simp) ?_
          refine AllReady.cons rfl (fun K hK => ?_) AllReady.nil
          go_simp
          refine hK _ _ ?_
          clear hK K
          all_goals
            refine wpAny_ready (rs := [19]) (by kernel_rfl) (by simp) ?_
            refine AllReady.cons rfl (fun K hK => ?_) AllReady.nil
            go_simp
            refine (Hih.out w2 j hs os (updB al' r) Hgs2.out (Nat.le_trans hB HW2.out) hj HP.out (.inr ⟨r, hhj, if_pos rfl⟩) Hcnt.out).mono ?_
            rintro e w3 ⟨b, hs', os', al3, rfl, hgs3, hon3, hfo, hmi⟩
            refine hK _ _ ?_
            clear hK K
            have Hgs3 := Lib.hid hgs3
            have Hon3 := Lib.hid (Hon2.out.trans hon3)
            have HOn3 := Lib.hid (HOn2.out.trans hon3)
            have HW3 : Hid (w.heap.size ≤ w3.heap.size) := HOn3.out.size
            have Hfo := Lib.hid hfo
            have Hmi := Lib.hid hmi
            clear hgs3 hon3 hfo hmi g1 g2 g3 g4
            have g1 := Hbxx.out _ Hon3.out 0
            have g2 := Hbxx.out _ Hon3.out 1
            have g3 := Hbxx.out _ Hon3.out 2
            rcases b with _ | _
            · obtain ⟨rfl, rfl, hmis⟩ := Hmi.out rfl
              have Hmis := Lib.hid hmis
              clear hmis
              refine wpAny_take (i := 20) (v := ?_) rfl (by kernel_rfl) (by kernel_rfl) (by kernel_rfl) (fun _ _ _ h => h) (Or.inl ⟨by rfl, ?_⟩) ?_
              rotate_left
              · intro w; go_simp; try with_reducible rfl
              (refine wpAny_act (b := ?_) ?_ ?_; rotate_left; (go_simp; with_reducible rfl))
              refine wpAny_take (i := 21) (v := ?_) rfl (by kernel_rfl) (by kernel_rfl) (by kernel_rfl) (fun _ _ _ h => h) (Or.inl ⟨by rfl, ?_⟩) ?_
              rotate_left
              · intro w; go_simp; try with_reducible rfl
              (refine wpAny_act (b := ?_) ?_ ?_; rotate_left; (go_simp; with_reducible rfl))
              refine wpAny_done (by kernel_rfl) ?_ _
              go_wp2
              go_roundw
              case rel => exact ⟨k + 1, al3, by go_num, by omega, Hgs3.out, Htr.out.miss Hmem.out hoj Hmis.out, Hon3.out⟩
              case measure => simp [intOf]; omega
            · have Hfound := Lib.hid (Hfo.out rfl)
              refine wpAny_take (i := 20) (v := ?_) rfl (by kernel_rfl) (by kernel_rfl) (by kernel_rfl) (fun _ _ _ h => h) (Or.inl ⟨by rfl, ?_⟩) ?_
              rotate_left
              · intro w; go_simp; try with_reducible rfl
              (refine wpAny_act (b := ?_) ?_ ?_; rotate_left; (go_simp; with_reducible rfl))
              refine wpAny_take (i := 21) (v := ?_) rfl (by kernel_rfl) (by kernel_rfl) (by kernel_rfl) (fun _ _ _ h => h) (Or.inl ⟨by rfl, ?_⟩) ?_
              rotate_left
              · intro w; go_simp; try with_reducible rfl
              (refine wpAny_act (b := ?_) ?_ ?_; rotate_left; (go_simp; with_reducible rfl))
              refine wpAny_done (by kernel_rfl) ?_ _
              go_wp2
              have hbgh : w.heap.size ≠ gh := by omega
              have hbgo : w.heap.size ≠ go := by omega
              have hgg : gh ≠ go := HS.out.ho
              have g5 := NumsK.at Hgs3.out.h hi
              have g4 := NumsK.at Hgs3.out.o hrR
              have hfz : w3.frozen? ⟨gh, i, none⟩ = false := World.rowIs.frozen Hgs3.out.h i
              have hfz2 : w3.frozen? ⟨go, r, none⟩ = false := World.rowIs.frozen Hgs3.out.o r
              go_region
              go_wp2
              go_ret
              exact ⟨true, updI hs' i r, updI os' r i, al3, rfl, (Hgs3.out.gave i r).below (Nat.le_trans (Nat.le_trans hB HW3.out) (by simp [World.setCell])) (below_drew _), only3_drew1 (only3_set (only3_set HOn3.out gh i _ (.inl rfl)) go r _ (.inr (.inl rfl))), fun _ => found_more HP.out hi Hpre.out hrR Hgoes.out hoj Htr.out.up Ha.out Hfound.out, fun h => by cases h⟩
      · have Ha := Lib.hid ha
        clear ha
        have HG2 := Lib.hid ((Hgs.out.below (Nat.le_trans hB HOn.out.size) (below_drewN (Below.refl _ _) 1)).asked r)
        have Hon2 : Hid (Only3 gh go g w1 ((wr.drewN 1).setCell ⟨g, r, none⟩ (.bool true))) := only3_set (only3_drew Hon.out 1) g r _ (.inr (.inr rfl))
        have Hsame : Hid (updB al' r = al') := funext fun x => by
          unfold updB
          split
          · rename_i e; rw [e, Ha.out]
          · rfl
        go_wp2
        refine wp_region_any (by kernel_rfl) ?_
        change wpAny _ _ _ _ _ _ _ (World.drew _)
        refine wpAny_take (i := 0) (v := ?_) rfl (by kernel_rfl) (by kernel_rfl) (by kernel_rfl) (fun _ _ _ h => h) (Or.inl ⟨by rfl, ?_⟩) ?_
        rotate_left
        · intro w; go_simp; try with_reducible rfl
        (refine wpAny_act (b := ?_) ?_ ?_; rotate_left; (go_simp; with_reducible rfl))
        refine wpAny_take (i := 1) (v := ?_) rfl (by kernel_rfl) (by kernel_rfl) (by kernel_rfl) (fun _ _ _ h => h) (Or.inl ⟨by rfl, ?_⟩) ?_
        rotate_left
        · intro w; go_simp; try with_reducible rfl
        (refine wpAny_act (b := ?_) ?_ ?_; rotate_left; (go_simp; with_reducible rfl))
        refine wpAny_ready (rs := [2]) (by kernel_rfl) (by simp) ?_
        refine AllReady.cons rfl (fun K hK => ?_) AllReady.nil
        go_simp
        refine (Hre.out _ _ Ha.out (Hgs.out.below (Nat.le_trans hB HOn.out.size) (below_drewN (Below.refl _ _) 1))).mono ?_
        rintro e w' ⟨rfl, rfl⟩
        refine hK _ _ ?_
        clear hK K
        refine wpAny_take (i := 3) (v := ?_) rfl (by kernel_rfl) (by kernel_rfl) (by kernel_rfl) (fun _ _ _ h => h) (Or.inl ⟨by rfl, ?_⟩) ?_
        rotate_left
        · intro w; go_simp; try with_reducible rfl
        (refine wpAny_act (b := ?_) ?_ ?_; rotate_left; (go_simp; with_reducible rfl))
        refine wpAny_take (i := 4) (v := ?_) rfl (by kernel_rfl) (by kernel_rfl) (by kernel_rfl) (fun _ _ _ h => h) (Or.inl ⟨by rfl, ?_⟩) ?_
        rotate_left
        · intro w; go_simp; try with_reducible rfl
        (refine wpAny_act (b := ?_) ?_ ?_; rotate_left; (go_simp; with_reducible rfl))
        refine wpAny_take (i := 5) (v := undef) rfl (by kernel_rfl) (by kernel_rfl) (by kernel_rfl) (fun _ _ _ h => h) (Or.inr ⟨by simp [Region.wanted, yielded, go_sem, undef], rfl⟩) ?_
        (refine wpAny_act (b := ?_) ?_ ?_; rotate_left; (go_simp; with_reducible rfl))
        refine wpAny_take (i := 6) (v := undef) rfl (by kernel_rfl) (by kernel_rfl) (by kernel_rfl) (fun _ _ _ h => h) (Or.inr ⟨by simp [Region.wanted, yielded, go_sem, undef], rfl⟩) ?_
        (refine wpAny_act (b := ?_) ?_ ?_; rotate_left; (go_simp; with_reducible rfl))
        refine wpAny_take (i := 7) (v := undef) rfl (by kernel_rfl) (by kernel_rfl) (by kernel_rfl) (fun _ _ _ h => h) (Or.inr ⟨by simp [Region.wanted, yielded, go_sem, undef], rfl⟩) ?_
        (refine wpAny_act (b := ?_) ?_ ?_; rotate_left; (go_simp; with_reducible rfl))
        refine wpAny_take (i := 8) (v := undef) rfl (by kernel_rfl) (by kernel_rfl) (by kernel_rfl) (fun _ _ _ h => h) (Or.inr ⟨by simp [Region.wanted, yielded, go_sem, undef], rfl⟩) ?_
        (refine wpAny_act (b := ?_) ?_ ?_; rotate_left; (go_simp; with_reducible rfl))
        refine wpAny_take (i := 9) (v := undef) rfl (by kernel_rfl) (by kernel_rfl) (by kernel_rfl) (fun _ _ _ h => h) (Or.inr ⟨by simp [Region.wanted, yielded, go_sem, undef], rfl⟩) ?_
        (refine wpAny_act (b := ?_) ?_ ?_; rotate_left; (go_simp; with_reducible rfl))
        refine wpAny_take (i := 10) (v := undef) rfl (by kernel_rfl) (by kernel_rfl) (by kernel_rfl) (fun _ _ _ h => h) (Or.inr ⟨by simp [Region.wanted, yielded, go_sem, undef], rfl⟩) ?_
        (refine wpAny_act (b := ?_) ?_ ?_; rotate_left; (go_simp; with_reducible rfl))
        refine wpAny_take (i := 11) (v := undef) rfl (by kernel_rfl) (by kernel_rfl) (by kernel_rfl) (fun _ _ _ h => h) (Or.inr ⟨by simp [Region.wanted, yielded, go_sem, undef], rfl⟩) ?_
        (refine wpAny_act (b := ?_) ?_ ?_; rotate_left; (go_simp; with_reducible rfl))
        refine wpAny_take (i := 12) (v := undef) rfl (by kernel_rfl) (by kernel_rfl) (by kernel_rfl) (fun _ _ _ h => h) (Or.inr ⟨by simp [Region.wanted, yielded, go_sem, undef], rfl⟩) ?_
        (refine wpAny_act (b := ?_) ?_ ?_; rotate_left; (go_simp; with_reducible rfl))
        refine wpAny_take (i := 13) (v := undef) rfl (by kernel_rfl) (by kernel_rfl) (by kernel_rfl) (fun _ _ _ h => h) (Or.inr ⟨by simp [Region.wanted, yielded, go_sem, undef], rfl⟩) ?_
        (refine wpAny_act (b := ?_) ?_ ?_; rotate_left; (go_simp; with_reducible rfl))
        refine wpAny_take (i := 14) (v := undef) rfl (by kernel_rfl) (by kernel_rfl) (by kernel_rfl) (fun _ _ _ h => h) (Or.inr ⟨by simp [Region.wanted, yielded, go_sem, undef], rfl⟩) ?_
        (refine wpAny_act (b := ?_) ?_ ?_; rotate_left; (go_simp; with_reducible rfl))
        refine wpAny_take (i := 15) (v := undef) rfl (by kernel_rfl) (by kernel_rfl) (by kernel_rfl) (fun _ _ _ h => h) (Or.inr ⟨by simp [Region.wanted, yielded, go_sem, undef], rfl⟩) ?_
        (refine wpAny_act (b := ?_) ?_ ?_; rotate_left; (go_simp; with_reducible rfl))
        refine wpAny_take (i := 16) (v := undef) rfl (by kernel_rfl) (by kernel_rfl) (by kernel_rfl) (fun _ _ _ h => h) (Or.inr ⟨by simp [Region.wanted, yielded, go_sem, undef], rfl⟩) ?_
        (refine wpAny_act (b := ?_) ?_ ?_; rotate_left; (go_simp; with_reducible rfl))
        refine wpAny_take (i := 17) (v := undef) rfl (by kernel_rfl) (by kernel_rfl) (by kernel_rfl) (fun _ _ _ h => h) (Or.inr ⟨by simp [Region.wanted, yielded, go_sem, undef], rfl⟩) ?_
        (refine wpAny_act (b := ?_) ?_ ?_; rotate_left; (go_simp; with_reducible rfl))
        refine wpAny_take (i := 18) (v := undef) rfl (by kernel_rfl) (by kernel_rfl) (by kernel_rfl) (fun _ _ _ h => h) (Or.inr ⟨by simp [Region.wanted, yielded, go_sem, undef], rfl⟩) ?_
        (refine wpAny_act (b := ?_) ?_ ?_; rotate_left; (go_simp; with_reducible rfl))
        refine wpAny_take (i := 19) (v := undef) rfl (by kernel_rfl) (by kernel_rfl) (by kernel_rfl) (fun _ _ _ h => h) (Or.inr ⟨by simp [Region.wanted, yielded, go_sem, undef], rfl⟩) ?_
        (refine wpAny_act (b := ?_) ?_ ?_; rotate_left; (go_simp; with_reducible rfl))
        refine wpAny_take (i := 20) (v := undef) rfl (by kernel_rfl) (by kernel_rfl) (by kernel_rfl) (fun _ _ _ h => h) (Or.inr ⟨by simp [Region.wanted, yielded, go_sem, undef], rfl⟩) ?_
        (refine wpAny_act (b := ?_) ?_ ?_; rotate_left; (go_simp; with_reducible rfl))
        refine wpAny_take (i := 21) (v := ?_) rfl (by kernel_rfl) (by kernel_rfl) (by kernel_rfl) (fun _ _ _ h => h) (Or.inl ⟨by rfl, ?_⟩) ?_
        rotate_left
        · intro w; go_simp; try with_reducible rfl
        (refine wpAny_act (b := ?_) ?_ ?_; rotate_left; (go_simp; with_reducible rfl))
        refine wpAny_done (by kernel_rfl) ?_ _
        go_wp2
        go_roundw
        case rel => exact ⟨k + 1, al', by go_num, by omega, by rw [← Hsame.out]; exact HG2.out, Htr.out.skip Hmem.out Ha.out, Hon2.out⟩
        case measure => simp [intOf]; omega
    · have hkl : k = l.length := by omega
      subst hkl
      clear hbx hlt
      go_wp2
      go_ret
      exact ⟨false, hs, os, al', rfl, Hgs.out, HOn.out, fun h => (by cases h), fun _ => ⟨rfl, rfl, Htr.out.done (by rw [Hl.out]; exact Nat.le_refl _)⟩⟩

end Wp
end Go.Proofs.Ytmgfhehnehcmpaa
