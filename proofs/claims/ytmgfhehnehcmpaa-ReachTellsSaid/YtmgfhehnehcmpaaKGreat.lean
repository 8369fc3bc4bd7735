/- A greatest matching: the program's greatest, walked. -/
import Derived.Test.YtmgfhehnehcmpaaKGive
namespace Go.Proofs.Ytmgfhehnehcmpaa
open Go.RowKit
namespace Wp

/-- What greatest leaves: the lists of whom each has, of a greatest matching. -/
def GreatP (w : World) (v : Value) (R : Nat) (adj : List (List Int)) (e : Ending) (w' : World) : Prop :=
  ∃ (gh go : Nat) (hs os : Nat → Int), e = .returned (.agg #[v, .slice (some ⟨gh, 0, none⟩) adj.length adj.length, .slice (some ⟨go, 0, none⟩) R R]) ∧
    NumsK w' gh adj.length hs ∧ NumsK w' go R os ∧ gh ≠ go ∧ w.heap.size ≤ gh ∧ w.heap.size ≤ go ∧ Below w.heap.size w w' ∧ Great R adj hs os adj.length

/-- What stands at the start of each round: the lists, the matching of the first k, the boxes. -/
structure GInv (w0 : World) (B gh go bp R : Nat) (v : Value) (adj : List (List Int)) (wr : World) (k : Nat) (hs os : Nat → Int) : Prop where
  rows : Rows2 wr B v adj
  h : NumsK wr gh adj.length hs
  o : NumsK wr go R os
  res : Blk wr B 44 #[.slice none 0 0, .slice none 0 0, .slice none 0 0]
  box : Blk wr bp 44 #[v, .slice (some ⟨gh, 0, none⟩) adj.length adj.length, .slice (some ⟨go, 0, none⟩) R R]
  below : Below B w0 wr
  great : Great R adj hs os k

theorem GInv.gs {w0 wr w4 : World} {B gh go bp R k bx g : Nat} {v f : Value} {adj : List (List Int)} {hs os : Nat → Int} {al : Nat → Bool} (h : GInv w0 B gh go bp R v adj wr k hs os) (hb : Below wr.heap.size wr w4) (hf : ReachF w4 f bx g R al) (hbx : wr.heap.size ≤ bx) (hg : wr.heap.size ≤ g)
    (hB : B ≤ wr.heap.size) (h1 : B ≤ gh) (h2 : B ≤ go) (h3 : gh ≠ go) : GS w4 v adj B gh go g bx R f hs os al := by
  have a := World.rowIs.lt h.h
  have b := World.rowIs.lt h.o
  exact ⟨h.rows.below (hb.mono hB), h.h.below hb, h.o.below hb, hf, h1, h2, by omega, by omega, h3, by omega, by omega, by omega, by omega⟩
theorem GInv.next {w0 wr w4 w5 : World} {B gh go bp R k bx g : Nat} {v f : Value} {adj : List (List Int)} {hs os : Nat → Int} {e : Ending} (h : GInv w0 B gh go bp R v adj wr k hs os) (hb : Below wr.heap.size wr w4) (hg : wr.heap.size ≤ g)
    (hB : B < gh) (h2 : B < go) (h3 : bp ≠ gh) (h4 : bp ≠ go) (hk : k < adj.length) (hG : Gave w4 v adj B gh go g bx R k f hs os (fun _ => false) e w5) : ∃ b hs' os', e = .returned (.bool b) ∧ GInv w0 B gh go bp R v adj w5 (k + 1) hs' os' := by
  obtain ⟨b, hs', os', al', rfl, hgs, hon, hfo, hmi⟩ := hG
  have hr := Blk.lt h.res
  have hx := Blk.lt h.box
  have hsz := hb.size
  refine ⟨b, hs', os', rfl, hgs.rows, hgs.h, hgs.o, ?_, ?_, ?_, ?_⟩
  · exact (hon.block B (by omega) (by omega) (by omega) (by omega)).trans (Blk.below h.res hb hr)
  · exact (hon.block bp (by omega) (by omega) (by omega) (by omega)).trans (Blk.below h.box hb hx)
  · exact (h.below.trans (hb.mono (by omega))).trans (hon.below (by omega) (by omega) (by omega) (by omega))
  · rcases b with _ | _
    · obtain ⟨rfl, rfl, hm⟩ := hmi rfl
      exact h.great.miss (fun _ => rfl) hm
    · exact h.great.hit hk (hfo rfl)

theorem none_at (n g : Nat) (w : World) (hn : n ≤ 64) (hg : w.heap.size = g) :
    Calls Try.prog 42 #[.int .i64 n] w fun e w' => e = .returned (.slice (some ⟨g, 0, none⟩) n n) ∧ NumsK w' g n (fun _ => -1) ∧ Below g w w' := by
  subst hg
  exact none_any n w hn

set_option maxHeartbeats 4000000 in
set_option maxRecDepth 100000 in
theorem greatest_any (R : Nat) (v : Value) (adj : List (List Int)) (w : World) (hr : Rows2 w w.heap.size v adj) (hOn : OnR R adj) (hR : R ≤ 64) (hn : adj.length ≤ 64) :
    Calls Try.prog 28 #[.int .i64 R, v] w (GreatP w v R adj) := by
  have Hr := Lib.hid hr
  have HOn := Lib.hid hOn
  obtain ⟨A, c, rfl, hcap, _⟩ := hr
  clear hOn
  have hb0 := Blk.new w 44 #[.slice none 0 0, .slice none 0 0, .slice none 0 0]
  have Hb0 := Lib.hid hb0
  have HB0 := Lib.hid ((Below.refl w.heap.size w).alloc (Nat.le_refl _) (.cells #[.slice none 0 0, .slice none 0 0, .slice none 0 0] 44))
  clear hb0
  go_enter Try.func28, Try.ntmps28
  go_wp2_with fail
  refine (none_at adj.length (w.heap.size + 1) _ hn (by simp)).mono ?_
  rintro e w1 ⟨rfl, hN1, hB1⟩
  have Hb1 := Lib.hid (Blk.below Hb0.out hB1 (by omega))
  have HB1 : Hid (Below w.heap.size w w1) := HB0.out.trans (hB1.mono (by omega))
  have hgh1 : w.heap.size + 1 < w1.heap.size := World.rowIs.lt hN1
  have HN1 := Lib.hid hN1
  clear hN1 hB1 Hb0 HB0
  go_wp2_with fail
  obtain ⟨go, hgo⟩ : ∃ go, w1.heap.size = go := ⟨_, rfl⟩
  refine (none_at R go _ hR hgo).mono ?_
  rintro e w2 ⟨rfl, hN2, hB2⟩
  have Hgo := Lib.hid hgo
  have Hb2 := Lib.hid (Blk.below Hb1.out hB2 (by omega))
  have HN3 := Lib.hid (HN1.out.below (hgo ▸ hB2))
  have HB2 : Hid (Below w.heap.size w w2) := HB1.out.trans (hB2.mono (by omega))
  have hgo2 : go < w2.heap.size := World.rowIs.lt hN2
  have HN2 := Lib.hid hN2
  clear hN2 hB2 Hb1 HB1 HN1
  rw [hgo] at hgh1
  clear hgo
  obtain ⟨bp, hbp⟩ : ∃ bp, w2.heap.size = bp := ⟨_, rfl⟩
  go_wp2
  obtain ⟨w3, hw3⟩ : ∃ w3, w3 = w2.alloc (.cells #[.slice A adj.length c, .slice (some ⟨w.heap.size + 1, 0, none⟩) adj.length adj.length, .slice (some ⟨go, 0, none⟩) R R] 44) := ⟨_, rfl⟩
  rw [← hw3]
  have Hst : Hid (GInv w w.heap.size (w.heap.size + 1) go bp R (.slice A adj.length c) adj w3 0 (fun _ => -1) (fun _ => -1)) := by
    have hw : Below w2.heap.size w2 w3 := by rw [hw3]; exact (Below.refl _ w2).alloc (Nat.le_refl _) _
    have hB3 : Below w.heap.size w w3 := HB2.out.trans (hw.mono (by omega))
    refine ⟨Hr.out.below hB3, HN3.out.below (hw.mono (by omega)), HN2.out.below hw, Blk.below Hb2.out hw (by omega), ?_, hB3, great_zero (fun _ => rfl) (fun _ => rfl)⟩
    subst hbp
    rw [hw3]
    exact Blk.new w2 _ _
  clear hw3 HB2 HN3 HN2 Hb2
  go_loopw [16] (fun vi wr => ∃ (k : Nat) (hs os : Nat → Int), vi = .int .i64 k ∧ k ≤ adj.length ∧ GInv w w.heap.size (w.heap.size + 1) go bp R (.slice A adj.length c) adj wr k hs os) (fun vi _ => adj.length - (intOf vi).toNat)
  case atStart => exact ⟨0, _, _, rfl, Nat.zero_le _, Hst.out⟩
  case round =>
    clear Hst
    obtain ⟨k, hs, os, rfl, hk, hin⟩ := hrel
    have Hin := Lib.hid hin
    have g1 := Blk.cell hin.box 0
    have g2 := Blk.cell hin.box 1
    have g3 := Blk.cell hin.box 2
    have hbpw : bp < wr.heap.size := Blk.lt hin.box
    have hghw := World.rowIs.lt hin.h
    have hgow := World.rowIs.lt hin.o
    clear hin
    by_cases hlt : k < adj.length
    · have hkI : (k : Int) < (adj.length : Int) := by omega
      go_wp2
      refine wp_region_any (by kernel_rfl) ?_
      change wpAny _ _ _ _ _ _ _ (World.drew _)
      refine wpAny_take (i := 1) (v := ?_) rfl (by kernel_rfl) (by kernel_rfl) (by kernel_rfl) (fun _ _ _ h => h) (Or.inl ⟨by rfl, ?_⟩) ?_
      rotate_left
      · intro w; go_simp; try with_reducible rfl
      (refine wpAny_act (b := ?_) ?_ ?_; rotate_left; (go_simp; with_reducible rfl))
      refine wpAny_take (i := 2) (v := ?_) rfl (by kernel_rfl) (by kernel_rfl) (by kernel_rfl) (fun _ _ _ h => h) (Or.inl ⟨by rfl, ?_⟩) ?_
      rotate_left
      · intro w; go_simp; try with_reducible rfl
      (refine wpAny_act (b := ?_) ?_ ?_; rotate_left; (go_simp; with_reducible rfl))
      refine wpAny_ready (rs := [0, 3]) (by kernel_rfl) (by simp) ?_
      refine AllReady.cons rfl (fun K hK => ?_) (AllReady.cons rfl (fun K hK => ?_) AllReady.nil)
      go_simp
      refine hK _ _ ?_
      clear hK K
      refine wpAny_ready (rs := [3]) (by kernel_rfl) (by simp) ?_
      refine AllReady.cons rfl (fun K hK => ?_) AllReady.nil
      go_simp
      refine (reaching_any R _ hR).mono ?_
      rintro e w4 ⟨f, bx, g, rfl, hf, hbx, hg, hb4⟩
      refine hK _ _ ?_
      clear hK K
      rotate_left
      go_simp
      refine (reaching_any R _ hR).mono ?_
      rintro e w4 ⟨f, bx, g, rfl, hf, hbx, hg, hb4⟩
      refine hK _ _ ?_
      clear hK K
      have g1 := (hb4.cell (p := ⟨bp, 0, none⟩) (by simpa using hbpw)).trans g1
      have g2 := (hb4.cell (p := ⟨bp, 1, none⟩) (by simpa using hbpw)).trans g2
      have g3 := (hb4.cell (p := ⟨bp, 2, none⟩) (by simpa using hbpw)).trans g3
      refine wpAny_ready (rs := [0]) (by kernel_rfl) (by simp) ?_
      refine AllReady.cons rfl (fun K hK => ?_) AllReady.nil
      go_simp
      refine hK _ _ ?_
      clear hK K
      clear g1 g2 g3
      all_goals
        refine wpAny_ready (rs := [4]) (by kernel_rfl) (by simp) ?_
        refine AllReady.cons rfl (fun K hK => ?_) AllReady.nil
        go_simp
        have Hb4 : Hid (Below wr.heap.size wr w4) := Lib.hid ⟨hb4.os, hb4.tape, hb4.output, hb4.size, hb4.block⟩
        refine (give_any w.heap.size (w.heap.size + 1) go g bx R adj _ f HOn.out (R + 1) w4 k hs os (fun _ => false) (Hin.out.gs Hb4.out hf hbx hg (by omega) (by omega) (by omega) (by omega)) (by have := Hb4.out.size; omega) hlt Hin.out.great.p (.inl (Hin.out.great.rest k (Nat.le_refl _) hlt)) (Nat.lt_succ_of_le (cntP_le _ R))).mono ?_
        rintro e w5 hG
        obtain ⟨b, hs', os', rfl, hin'⟩ := Hin.out.next Hb4.out hg (by omega) (by omega) (by omega) (by omega) hlt hG
        have Hin' := Lib.hid hin'
        clear hin' hG hb4 hf hbx hg
        refine hK _ _ ?_
        clear hK K
        refine wpAny_done (by kernel_rfl) ?_ _
        go_wp2
        go_roundw
        case rel => exact ⟨k + 1, hs', os', by go_num, by omega, Hin'.out⟩
        case measure => simp [intOf]; omega
    · have hkn : k = adj.length := by omega
      subst hkn
      have h1 := Blk.cell Hin.out.res 0
      have h2 := Blk.cell Hin.out.res 1
      have h3 := Blk.cell Hin.out.res 2
      have f1 := Blk.frozen Hin.out.res 0
      have f2 := Blk.frozen Hin.out.res 1
      have f3 := Blk.frozen Hin.out.res 2
      go_wp2
      have hfin := ((Hin.out.res.set_ 0 (.slice A adj.length c)).set_ 1 (.slice (some ⟨w.heap.size + 1, 0, none⟩) adj.length adj.length)).set_ 2 (.slice (some ⟨go, 0, none⟩) R R)
      have hbw : Below w.heap.size w (((wr.setCell ⟨w.heap.size, 0, none⟩ (.slice A adj.length c)).setCell ⟨w.heap.size, 1, none⟩ (.slice (some ⟨w.heap.size + 1, 0, none⟩) adj.length adj.length)).setCell ⟨w.heap.size, 2, none⟩ (.slice (some ⟨go, 0, none⟩) R R)) :=
        ((Hin.out.below.setCell (p := ⟨w.heap.size, 0, none⟩) (Nat.le_refl _) _).setCell (p := ⟨w.heap.size, 1, none⟩) (Nat.le_refl _) _).setCell (p := ⟨w.heap.size, 2, none⟩) (Nat.le_refl _) _
      have hblk : ∀ b, b ≠ w.heap.size → (((wr.setCell ⟨w.heap.size, 0, none⟩ (.slice A adj.length c)).setCell ⟨w.heap.size, 1, none⟩ (.slice (some ⟨w.heap.size + 1, 0, none⟩) adj.length adj.length)).setCell ⟨w.heap.size, 2, none⟩ (.slice (some ⟨go, 0, none⟩) R R)).heap[b]? = wr.heap[b]? := fun b hb =>
        ((Below.heap_setCell _ ⟨w.heap.size, 2, none⟩ _ b hb).trans (Below.heap_setCell _ ⟨w.heap.size, 1, none⟩ _ b hb)).trans (Below.heap_setCell _ ⟨w.heap.size, 0, none⟩ _ b hb)
      generalize ((wr.setCell ⟨w.heap.size, 0, none⟩ (.slice A adj.length c)).setCell ⟨w.heap.size, 1, none⟩ (.slice (some ⟨w.heap.size + 1, 0, none⟩) adj.length adj.length)).setCell ⟨w.heap.size, 2, none⟩ (.slice (some ⟨go, 0, none⟩) R R) = w9 at *
      have k1 : w9.cell? ⟨w.heap.size, 0, none⟩ = some (.slice A adj.length c) := hfin.cell 0
      have k2 : w9.cell? ⟨w.heap.size, 1, none⟩ = some (.slice (some ⟨w.heap.size + 1, 0, none⟩) adj.length adj.length) := hfin.cell 1
      have k3 : w9.cell? ⟨w.heap.size, 2, none⟩ = some (.slice (some ⟨go, 0, none⟩) R R) := hfin.cell 2
      refine bodyPost_ret (v := .agg #[.slice A adj.length c, .slice (some ⟨w.heap.size + 1, 0, none⟩) adj.length adj.length, .slice (some ⟨go, 0, none⟩) R R]) ?_ rfl ?_
      · simp [results, Try.results28, go_sem, k1, k2, k3]
      · exact ⟨w.heap.size + 1, go, hs, os, rfl, World.rowIs.of_block Hin.out.h (hblk _ (by omega)), World.rowIs.of_block Hin.out.o (hblk _ (by omega)), by omega, by omega, by omega, hbw, Hin.out.great⟩

end Wp
end Go.Proofs.Ytmgfhehnehcmpaa
