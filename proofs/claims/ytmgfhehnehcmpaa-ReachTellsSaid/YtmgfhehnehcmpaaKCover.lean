/- The least cover: the program's Cover, walked. -/
import Derived.Test.YtmgfhehnehcmpaaKMax
import Derived.Test.YtmgfhehnehcmpaaSSort
namespace Go.Proofs.Ytmgfhehnehcmpaa
open Go.RowKit
namespace Wp

/-- The two sides of the cover, of the first k on the left. -/
def leftsL (hs : Nat → Int) (al : Nat → Bool) (k : Nat) : List Int := ((List.range k).filter (isL hs al)).map fun i : Nat => (i : Int)
def rightsL (hs : Nat → Int) (al : Nat → Bool) (k : Nat) : List Int := ((List.range k).filter (isR hs al)).map hs
theorem leftsL_succ (hs : Nat → Int) (al : Nat → Bool) (k : Nat) : leftsL hs al (k + 1) = leftsL hs al k ++ if isL hs al k then [(k : Int)] else [] := by
  unfold leftsL
  rw [List.range_succ, List.filter_append, List.map_append]
  cases h : isL hs al k <;> simp [h]
theorem rightsL_succ (hs : Nat → Int) (al : Nat → Bool) (k : Nat) : rightsL hs al (k + 1) = rightsL hs al k ++ if isR hs al k then [hs k] else [] := by
  unfold rightsL
  rw [List.range_succ, List.filter_append, List.map_append]
  cases h : isR hs al k <;> simp [h]
theorem leftsL_length (hs : Nat → Int) (al : Nat → Bool) (k : Nat) : (leftsL hs al k).length = cntP k (isL hs al) := by unfold leftsL cntP; simp
theorem rightsL_length (hs : Nat → Int) (al : Nat → Bool) (k : Nat) : (rightsL hs al k).length = cntP k (isR hs al) := by unfold rightsL cntP; simp

/-- What Cover answers. -/
def CoverP (w : World) (right : Int) (adj : List (List Int)) (e : Ending) (w' : World) : Prop :=
  ∃ (va vb : Value) (a b : List Int), e = .returned (.tuple #[va, vb]) ∧ Row w' w'.heap.size va a ∧ Row w' w'.heap.size vb b ∧ Below w.heap.size w w' ∧
    ((mayM right adj = false ∧ a = [] ∧ b = []) ∨ (mayM right adj = true ∧ ∃ hs os al, Great right.toNat adj hs os adj.length ∧ Reach adj hs os adj.length al ∧ a = leftsL hs al adj.length ∧ b = sortL (rightsL hs al adj.length)))

/-- What stands while it is told who is reached. -/
structure CInv (w0 : World) (B gh go bp g bx R : Nat) (v f : Value) (adj : List (List Int)) (hs os : Nat → Int) (wr : World) (k : Nat) (al : Nat → Bool) : Prop where
  gs : GS wr v adj B gh go g bx R f hs os al
  box : Blk wr bp 44 #[v, .slice (some ⟨gh, 0, none⟩) adj.length adj.length, .slice (some ⟨go, 0, none⟩) R R]
  below : Below B w0 wr
  reach : Reach adj hs os k al

theorem CInv.next {w0 wr w5 : World} {B gh go bp R k bx g : Nat} {v f : Value} {adj : List (List Int)} {hs os : Nat → Int} {al : Nat → Bool} {e : Ending} (h : CInv w0 B gh go bp g bx R v f adj hs os wr k al)
    (h3 : bp ≠ gh) (h4 : bp ≠ go) (h5 : bp ≠ g) (hB : B ≤ wr.heap.size) (hk : k < adj.length) (h0 : hs k = -1) (hgr : Great R adj hs os adj.length) (hG : Gave wr v adj B gh go g bx R k f hs os al e w5) : ∃ b al', e = .returned (.bool b) ∧ CInv w0 B gh go bp g bx R v f adj hs os w5 (k + 1) al' := by
  obtain ⟨b, hs', os', al', rfl, hgs, hon, hfo, hmi⟩ := hG
  have hx := Blk.lt h.box
  rcases b with _ | _
  · obtain ⟨rfl, rfl, hm⟩ := hmi rfl
    exact ⟨_, al', rfl, hgs, (hon.block bp hx h3 h4 h5).trans h.box, h.below.trans (hon.below hB h.gs.bh h.gs.bo h.gs.bg), h.reach.miss hm⟩
  · exact absurd (hfo rfl) (hgr.never hk h0)

theorem cellN (W : World) (n : Nat) (h : W.heap.size = n) (u : Value) (t : TypeId) : (W.alloc (.cells #[u] t)).cell? ⟨n, 0, none⟩ = some u := by
  subst h
  exact (Blk.new W t #[u]).cell 0
/-- What stands while the two sides are told. -/
structure C2 (w0 : World) (B B2 gh bx g R n : Nat) (f : Value) (hs : Nat → Int) (al : Nat → Bool) (wr : World) (lv rv : Value) (k : Nat) (al' : Nat → Bool) : Prop where
  fam : Fam wr B2 [lv, rv] [leftsL hs al k, rightsL hs al k]
  h : NumsK wr gh n hs
  r : ReachF wr f bx g R al'
  same : ∀ i, k ≤ i → i < n → hs i ≠ -1 → al' (hs i).toNat = al (hs i).toNat
  below : Below B w0 wr
  big : B2 ≤ wr.heap.size
variable {w0 wr : World} {B B2 gh bx g R n k : Nat} {f lv rv : Value} {hs : Nat → Int} {al al' : Nat → Bool}
theorem isL_no {i : Nat} (h : hs i = -1) : isL hs al i = false := by unfold isL; rw [h]; rfl
theorem isR_no {i : Nat} (h : hs i = -1) : isR hs al i = false := by unfold isR; rw [h]; rfl
theorem C2.skip (h : C2 w0 B B2 gh bx g R n f hs al wr lv rv k al') (hk : hs k = -1) : C2 w0 B B2 gh bx g R n f hs al wr lv rv (k + 1) al' :=
  ⟨by rw [leftsL_succ, rightsL_succ, isL_no hk, isR_no hk]; simpa using h.fam, h.h, h.r, fun i hi => h.same i (by omega), h.below, h.big⟩
/-- One has been asked of. -/
structure C3 (w0 : World) (B B2 gh bx g R n : Nat) (f : Value) (hs : Nat → Int) (al : Nat → Bool) (wr : World) (lv rv : Value) (k : Nat) (al' : Nat → Bool) : Prop where
  fam : Fam wr B2 [lv, rv] [leftsL hs al k, rightsL hs al k]
  h : NumsK wr gh n hs
  r : ReachF wr f bx g R al'
  same : ∀ i, k + 1 ≤ i → i < n → hs i ≠ -1 → al' (hs i).toNat = al (hs i).toNat
  below : Below B w0 wr
  big : B2 ≤ wr.heap.size
theorem grown_set (w : World) (g r : Nat) (v : Value) : w.grownBy (w.setCell ⟨g, r, none⟩ v) (some g) :=
  ⟨rfl, rfl, rfl, by simp [World.setCell], fun i _ hne => Below.heap_setCell w ⟨g, r, none⟩ v i (by rintro rfl; exact hne rfl)⟩
theorem C2.ask (h : C2 w0 B B2 gh bx g R n f hs al wr lv rv k al') {r : Nat} (hgh : g ≠ gh) (hg2 : g < B2) (hB : B ≤ g) (hinj : ∀ i, k + 1 ≤ i → i < n → hs i ≠ -1 → (hs i).toNat ≠ r) :
    C3 w0 B B2 gh bx g R n f hs al (wr.setCell ⟨g, r, none⟩ (.bool true)) lv rv k (updB al' r) where
  fam := h.fam.apart (grown_set wr g r _) hg2
  h := World.rowIs.of_block h.h (Below.heap_setCell wr ⟨g, r, none⟩ _ gh (fun e => hgh e.symm))
  r := h.r.slot r
  same := fun i hi hn hne => by
    unfold updB
    rw [if_neg (hinj i hi hn hne)]
    exact h.same i (by omega) hn hne
  below := h.below.setCell (p := ⟨g, r, none⟩) hB _
  big := by simpa [World.setCell] using h.big
theorem C3.upA (h : C3 w0 B B2 gh bx g R n f hs al wr lv rv k al') (hB : B ≤ B2) (o : Obj) : C3 w0 B B2 gh bx g R n f hs al (wr.alloc o) lv rv k al' where
  fam := h.fam.new (only_of_below ((Below.refl _ wr).alloc (Nat.le_refl _) o) none)
  h := h.h.below ((Below.refl _ wr).alloc (Nat.le_refl _) o)
  r := h.r.below ((Below.refl _ wr).alloc (Nat.le_refl _) o)
  same := h.same
  below := h.below.alloc (by have := h.big; omega) o
  big := by have := h.big; simp; omega
theorem C3.put (h : C3 w0 B B2 gh bx g R n f hs al wr lv rv k al') {w' : World} {at_ : Nat} {u lv' rv' : Value} {q : List Int} (hu : [lv, rv][at_]? = some u) {u' : Value} (hgr : wr.grownBy w' u.ownBlock)
    (ho : w'.ownsRow B2 3 1 u' q.length (ints q)) (hl : u'.ownBlock = u.ownBlock ∨ u'.ownBlock = some wr.heap.size) (hB : B ≤ B2) (h1 : gh < B2) (h2 : g < B2) (h3 : bx < B2)
    (e1 : [lv, rv].set at_ u' = [lv', rv']) (e2 : [leftsL hs al k, rightsL hs al k].set at_ q = [leftsL hs al (k + 1), rightsL hs al (k + 1)]) : C2 w0 B B2 gh bx g R n f hs al w' lv' rv' (k + 1) al' := by
  have hb2 : ∀ j, u.ownBlock = some j → B2 ≤ j := by
    intro j hj
    have ha := (List.getElem?_eq_some_iff.1 hu).1
    have := (h.fam.2.1 at_ u _ hu (List.getElem?_eq_getElem (by simpa using ha))).lt j hj
    exact this.1
  have hne : ∀ b, b < B2 → some b ≠ u.ownBlock := fun b hb e => by have := hb2 b e.symm; omega
  have hr := h.r
  refine ⟨by rw [← e1, ← e2]; exact h.fam.grow hu hgr ho hl, World.rowIs.of_block h.h (hgr.block gh (World.rowIs.lt h.h) (hne _ h1)), ?_, h.same, h.below.grown hgr (by have := h.big; omega) (fun i hi => by have := hb2 i hi; omega), Nat.le_trans h.big hgr.size⟩
  obtain ⟨r1, r2, r3, r4, r5⟩ := hr
  exact ⟨r1, (World.cell?_of_block (hgr.block bx r5 (hne _ h3))).trans r2, World.rowIs.of_block r3 (hgr.block g (World.rowIs.lt r3) (hne _ h2)), r4, Nat.lt_of_lt_of_le r5 hgr.size⟩

set_option maxHeartbeats 4000000 in
set_option maxRecDepth 100000 in
theorem cover_any (right : Int) (v : Value) (adj : List (List Int)) (w : World) (hr : Rows2 w w.heap.size v adj) :
    Calls Try.prog 10 #[.int .i64 right, v] w (CoverP w right adj) := by
  have Hr := Lib.hid hr
  obtain ⟨A, c, rfl, hcap, _⟩ := hr
  rcases hm : mayM right adj with _ | _
  · have Hm := Lib.hid hm
    clear hm
    go_enter Try.func10, Try.ntmps10
    go_wp2_with fail
    refine (kmay_is right _ adj false Hm.out w Hr.out).mono ?_
    rintro e w1 ⟨rfl, hb1⟩
    have Hb1 := Lib.hid hb1
    clear hb1
    go_wp2
    go_ret2
    exact ⟨_, _, [], [], rfl, Row.nil_ _ _, Row.nil_ _ _, Hb1.out, .inl ⟨Hm.out, rfl, rfl⟩⟩
  · have Hm := Lib.hid hm
    obtain ⟨hr0, hr64, hn64⟩ := may_bounds hm
    have HOn := Lib.hid (onR_of_may hm)
    clear hm
    obtain ⟨R, rfl⟩ : ∃ R : Nat, right = (R : Int) := ⟨right.toNat, by omega⟩
    have hR : R ≤ 64 := by omega
    have HeR : Hid ((R : Int).toNat = R) := Lib.hid (by omega)
    rw [HeR.out] at HOn
    clear hr0 hr64
    go_enter Try.func10, Try.ntmps10
    go_wp2_with fail
    refine (kmay_is R _ adj true Hm.out w Hr.out).mono ?_
    rintro e w1 ⟨rfl, hb1⟩
    have Hb1 := Lib.hid hb1
    have Hr1 := Lib.hid (Hr.out.up hb1)
    clear hb1
    go_wp2_with fail
    refine (greatest_any R _ adj w1 Hr1.out HOn.out hR hn64).mono ?_
    rintro e w2 ⟨gh, go, hs, os, rfl, hh, ho, hgg, hg1, hg2, hb2, hg⟩
    have hs1 := Hb1.out.size
    have hs2 := hb2.size
    have hl1 : gh < w2.heap.size := World.rowIs.lt hh
    have hl2 : go < w2.heap.size := World.rowIs.lt ho
    have Hb2 := Lib.hid (Hb1.out.trans (hb2.mono Hb1.out.size))
    have Hh := Lib.hid hh
    have Ho := Lib.hid ho
    have Hg := Lib.hid hg
    have Hr2 := Lib.hid (Hr.out.below Hb2.out)
    clear hb2 hh ho hg Hb1 Hr1
    obtain ⟨w3, hw3⟩ : ∃ w3, w3 = w2.alloc (.cells #[.slice A adj.length c, .slice (some ⟨gh, 0, none⟩) adj.length adj.length, .slice (some ⟨go, 0, none⟩) R R] 44) := ⟨_, rfl⟩
    have HW3 := Lib.hid hw3
    have Hbox : Hid (Blk w3 w2.heap.size 44 #[.slice A adj.length c, .slice (some ⟨gh, 0, none⟩) adj.length adj.length, .slice (some ⟨go, 0, none⟩) R R]) := Lib.hid (by rw [hw3]; exact Blk.new w2 _ _)
    have Hb3 : Hid (Below w2.heap.size w2 w3) := Lib.hid (by rw [hw3]; exact (Below.refl _ w2).alloc (Nat.le_refl _) _)
    have hs3 : w3.heap.size = w2.heap.size + 1 := by rw [hw3]; simp
    clear hw3
    go_wp2_with fail
    rw [← HW3.out]
    refine (reaching_any R w3 hR).mono ?_
    rintro e w4 ⟨f, bx, g, rfl, hf, hbx, hgb, hb4⟩
    obtain ⟨rfl, _⟩ := id hf
    have hs4 := hb4.size
    have Hst : Hid (CInv w w.heap.size gh go w2.heap.size g bx R (.slice A adj.length c) (.func (.func 43) #[] #[.pointer (some ⟨bx, 0, none⟩)]) adj hs os w4 0 (fun _ => false)) := by
      have h24 : Below w2.heap.size w2 w4 := Hb3.out.trans (hb4.mono (by omega))
      have hall : Below w.heap.size w w4 := Hb2.out.trans (h24.mono (by omega))
      exact Lib.hid ⟨⟨Hr.out.below hall, Hh.out.below h24, Ho.out.below h24, hf, by omega, by omega, by omega, by omega, hgg, by omega, by omega, by omega, by omega⟩, Blk.below Hbox.out hb4 (by omega), hall, reach_zero fun _ => rfl⟩
    have h5 : w2.heap.size ≠ g := by omega
    have h6 : w2.heap.size ≠ gh := by omega
    have h7 : w2.heap.size ≠ go := by omega
    clear hf hb4
    have g1 := Blk.cell Hst.out.box 0
    have g2 := Blk.cell Hst.out.box 1
    have g3 := Blk.cell Hst.out.box 2
    go_wp2
    clear g1 g2 g3
    clear HW3 hs3 hs4 hbx hgb hl1 hl2 hs2 Hbox Hb3
    generalize w2.heap.size = bp at Hst h5 h6 h7 ⊢
    go_loopw [26] (fun vi wr => ∃ (k : Nat) (al : Nat → Bool), vi = .int .i64 k ∧ k ≤ adj.length ∧ w.heap.size ≤ wr.heap.size ∧ CInv w w.heap.size gh go bp g bx R (.slice A adj.length c) (.func (.func 43) #[] #[.pointer (some ⟨bx, 0, none⟩)]) adj hs os wr k al) (fun vi _ => adj.length - (intOf vi).toNat)
    case atStart => exact ⟨0, _, rfl, Nat.zero_le _, Hst.out.below.size, Hst.out⟩
    case round =>
      clear Hst
      obtain ⟨k, al, rfl, hk, hsz, hin⟩ := hrel
      have Hin := Lib.hid hin
      have g1 := Blk.cell hin.box 0
      have g2 := Blk.cell hin.box 1
      have g3 := Blk.cell hin.box 2
      clear hin
      by_cases hlt : k < adj.length
      · have hkI : (k : Int) < (adj.length : Int) := by omega
        have g4 := NumsK.at Hin.out.gs.h hlt
        by_cases hx : hs k = -1
        · have Hx := Lib.hid hx
          rw [hx] at g4
          clear hx
          go_wp2_with fail
          refine (give_any w.heap.size gh go g bx R adj _ _ HOn.out (R + 1) wr k hs os al Hin.out.gs hsz hlt Hg.out.p (.inl Hx.out) (Nat.lt_succ_of_le (cntP_le _ R))).mono ?_
          rintro e w5 hG
          obtain ⟨b, al', rfl, hin'⟩ := Hin.out.next h6 h7 h5 hsz hlt Hx.out Hg.out hG
          have hsz5 : w.heap.size ≤ w5.heap.size := hin'.below.size
          have Hin' := Lib.hid hin'
          clear hin' hG g1 g2 g3 g4
          go_wp2
          go_roundw
          case rel => exact ⟨k + 1, al', by go_num, by omega, hsz5, Hin'.out⟩
          case measure => simp [intOf]; omega
        · have Hnext : Hid (CInv w w.heap.size gh go bp g bx R (.slice A adj.length c) (.func (.func 43) #[] #[.pointer (some ⟨bx, 0, none⟩)]) adj hs os wr (k + 1) al) := Lib.hid ⟨Hin.out.gs, Hin.out.box, Hin.out.below, Hin.out.reach.skip hx⟩
          generalize hs k = x at *
          go_wp2
          go_roundw
          case rel => exact ⟨k + 1, al, by go_num, by omega, hsz, Hnext.out⟩
          case measure => simp [intOf]; omega
      · have hkn : k = adj.length := by omega
        subst hkn
        have hgh : gh < wr.heap.size := World.rowIs.lt Hin.out.gs.h
        have hgg2 : g < wr.heap.size := World.rowIs.lt Hin.out.gs.r.2.2.1
        have hbx2 : bx < wr.heap.size := Hin.out.gs.r.2.2.2.2
        have hgne : g ≠ gh := fun e => Hin.out.gs.hg e.symm
        have hgB := Hin.out.gs.bg
        have Hst : Hid (C2 w w.heap.size wr.heap.size gh bx g R adj.length (.func (.func 43) #[] #[.pointer (some ⟨bx, 0, none⟩)]) hs al wr (.slice none 0 0) (.slice none 0 0) 0 al) :=
          Lib.hid ⟨(fam_nil wr wr.heap.size).more.more, Hin.out.gs.h, Hin.out.gs.r, fun _ _ _ _ => rfl, Hin.out.below, Nat.le_refl _⟩
        have Hreach := Lib.hid Hin.out.reach
        obtain ⟨B2, hB2⟩ : ∃ B2, wr.heap.size = B2 := ⟨_, rfl⟩
        rw [hB2] at hgh hgg2 hbx2 Hst hsz
        go_wp2
        clear hB2 g1 g2 g3
        go_loopw [10, 11, 41] (fun vl vr vi wx => ∃ (k : Nat) (al' : Nat → Bool), vi = .int .i64 k ∧ k ≤ adj.length ∧ C2 w w.heap.size B2 gh bx g R adj.length (.func (.func 43) #[] #[.pointer (some ⟨bx, 0, none⟩)]) hs al wx vl vr k al') (fun _ _ vi _ => adj.length - (intOf vi).toNat)
        case atStart => exact ⟨0, al, rfl, Nat.zero_le _, Hst.out⟩
        case round =>
          clear Hst Hin
          obtain ⟨k, al', rfl, hk, hc2⟩ := hrel
          have Hc2 := Lib.hid hc2
          clear hc2
          by_cases hlt : k < adj.length
          · have hkI : (k : Int) < (adj.length : Int) := by omega
            have g4 := NumsK.at Hc2.out.h hlt
            by_cases hx : hs k = -1
            · have Hc3 := Lib.hid (Hc2.out.skip hx)
              rw [hx] at g4
              clear hx
              go_wp2
              go_roundw
              case rel => exact ⟨k + 1, al', by go_num, by omega, Hc3.out⟩
              case measure => simp [intOf]; omega
            · obtain ⟨r, hrR, hr, _, hor⟩ := (Hg.out.p.l k hlt).resolve_left hx
              have Hinj : Hid (∀ i, k + 1 ≤ i → i < adj.length → hs i ≠ -1 → (hs i).toNat ≠ r) := Lib.hid fun i hi hn hne e => by
                rcases Hg.out.p.l i hn with e1 | ⟨q, _, e1, _, _⟩
                · exact hne e1
                · have : k = i := Hg.out.p.mat.inj k i hlt hn (by rw [hr, e1]; rw [e1] at e; simp at e; omega) hx
                  omega
              have Hask := Lib.hid (Hc2.out.ask hgne hgg2 hgB Hinj.out)
              have hall : al' r = al r := by
                have := Hc2.out.same k (Nat.le_refl _) hlt hx
                rwa [hr, Int.toNat_natCast] at this
              have Hr := Lib.hid hr
              have Hx := Lib.hid hx
              rw [hr] at g4
              have hr1 : ¬ ((r : Int) = -1) := by omega
              clear hx hr hor Hinj
              have Hre := Lib.hid Hc2.out.r
              rcases ha : al r with _ | _
              · have Ha := Lib.hid ha
                rw [ha] at hall
                have Hall := Lib.hid hall
                clear ha hall
                go_wp2_with fail
                refine (reached_is r R bx g _ al' false Hall.out _ Hre.out hrR).mono ?_
                rintro e wz ⟨rfl, rfl⟩
                generalize wr.setCell ⟨g, r, none⟩ (.bool true) = w6 at Hask ⊢
                have Hc6 := Lib.hid (Hask.out.upA (by omega) (.cells #[.int .i64 (k : Int)] 3))
                have Hcell := Lib.hid (cellN w6 _ rfl (.int .i64 (k : Int)) 3)
                have hown0 := Hc6.out.fam.2.1 0 _ _ rfl rfl
                have Hlen : Hid ((ints (leftsL hs al k)).length ≤ 64) := Lib.hid (by
                  rw [ints_length, leftsL_length]
                  have := cntP_le (isL hs al) k
                  omega)
                rw [← ints_length] at hown0
                have Hown := Lib.hid hown0
                have Hbig := Lib.hid Hc6.out.big
                clear hown0
                go_wp2_with (at_builtin; go_loud (refine wpList_append_cell rfl _ _ 25 3 (.int .i64 0) 8 rfl Try.underlying25 info3 rfl B2 _ (.int .i64 (k : Int)) (ints (leftsL hs al k)) rfl Hown.out w6.heap.size rfl Hcell.out rfl (by have := Hlen.out; omega) (by omega) Hbig.out ?_))
                intro v7 w7 hown7 hgr7 hl7
                have Hc7 : Hid (C2 w w.heap.size B2 gh bx g R adj.length (.func (.func 43) #[] #[.pointer (some ⟨bx, 0, none⟩)]) hs al w7 v7 u11 (k + 1) (updB al' r)) := Lib.hid (by
                  have e1 : isL hs al k = true := by unfold isL; rw [decide_eq_true Hx.out, Hr.out, Int.toNat_natCast, Ha.out]; rfl
                  have e2 : isR hs al k = false := by unfold isR; rw [decide_eq_true Hx.out, Hr.out, Int.toNat_natCast, Ha.out]; rfl
                  have e3 := leftsL_succ hs al k
                  have e4 := rightsL_succ hs al k
                  rw [e1] at e3
                  rw [e2] at e4
                  refine Hc6.out.put (at_ := 0) (q := leftsL hs al (k + 1)) rfl hgr7 ?_ (by simpa using hl7) (by omega) (by omega) (by omega) (by omega) rfl ?_
                  · rw [e3, if_pos rfl, ints_append, List.length_append, ← ints_length]
                    exact hown7
                  · rw [e4, if_neg (by decide), List.append_nil]
                    rfl)
                clear hown7 hgr7 hl7 Hc6 Hcell Hlen Hown Hbig Hask
                go_wp2
                go_roundw
                case rel => exact ⟨k + 1, _, by go_num, by omega, Hc7.out⟩
                case measure => simp [intOf]; omega
              · have Ha := Lib.hid ha
                rw [ha] at hall
                have Hall := Lib.hid hall
                clear ha hall
                go_wp2_with fail
                refine (reached_is r R bx g _ al' true Hall.out _ Hre.out hrR).mono ?_
                rintro e wz ⟨rfl, rfl⟩
                generalize wr.setCell ⟨g, r, none⟩ (.bool true) = w6 at Hask ⊢
                have Hc6 := Lib.hid (Hask.out.upA (by omega) (.cells #[.int .i64 (r : Int)] 3))
                have Hcell := Lib.hid (cellN w6 _ rfl (.int .i64 (r : Int)) 3)
                have hown0 := Hc6.out.fam.2.1 1 _ _ rfl rfl
                have Hlen : Hid ((ints (rightsL hs al k)).length ≤ 64) := Lib.hid (by
                  rw [ints_length, rightsL_length]
                  have := cntP_le (isR hs al) k
                  omega)
                rw [← ints_length] at hown0
                have Hown := Lib.hid hown0
                have Hbig := Lib.hid Hc6.out.big
                clear hown0
                go_wp2_with (at_builtin; go_loud (refine wpList_append_cell rfl _ _ 25 3 (.int .i64 0) 8 rfl Try.underlying25 info3 rfl B2 _ (.int .i64 (r : Int)) (ints (rightsL hs al k)) rfl Hown.out w6.heap.size rfl Hcell.out rfl (by have := Hlen.out; omega) (by omega) Hbig.out ?_))
                intro v7 w7 hown7 hgr7 hl7
                have Hc7 : Hid (C2 w w.heap.size B2 gh bx g R adj.length (.func (.func 43) #[] #[.pointer (some ⟨bx, 0, none⟩)]) hs al w7 u10 v7 (k + 1) (updB al' r)) := Lib.hid (by
                  have e1 : isL hs al k = false := by unfold isL; rw [decide_eq_true Hx.out, Hr.out, Int.toNat_natCast, Ha.out]; rfl
                  have e2 : isR hs al k = true := by unfold isR; rw [decide_eq_true Hx.out, Hr.out, Int.toNat_natCast, Ha.out]; rfl
                  have e3 := leftsL_succ hs al k
                  have e4 := rightsL_succ hs al k
                  rw [e1] at e3
                  rw [e2] at e4
                  refine Hc6.out.put (at_ := 1) (q := rightsL hs al (k + 1)) rfl hgr7 ?_ (by simpa using hl7) (by omega) (by omega) (by omega) (by omega) rfl ?_
                  · rw [e4, if_pos rfl, ints_append, List.length_append, ← ints_length, Hr.out]
                    exact hown7
                  · rw [e3, if_neg (by decide), List.append_nil]
                    rfl)
                clear hown7 hgr7 hl7 Hc6 Hcell Hlen Hown Hbig Hask
                go_wp2
                go_roundw
                case rel => exact ⟨k + 1, _, by go_num, by omega, Hc7.out⟩
                case measure => simp [intOf]; omega
          · have hkn : k = adj.length := by omega
            subst hkn
            have hownL := Hc2.out.fam.2.1 0 _ _ rfl rfl
            have hownR := Hc2.out.fam.2.1 1 _ _ rfl rfl
            have Hl := Lib.hid (Row.of_own hownL rfl)
            have Hr := Lib.hid (Row.of_own hownR rfl)
            have Hb := Lib.hid Hc2.out.below
            have hlen : (rightsL hs al adj.length).length ≤ 2097152 := by
              rw [rightsL_length]
              have := cntP_le (isR hs al) adj.length
              omega
            clear hownL hownR Hc2
            go_wp2_with fail
            refine (sort_any _ _ _ Hr.out hlen).mono ?_
            rintro e w9 ⟨v9, rfl, hr9, hb9⟩
            have Hr9 := Lib.hid hr9
            have Hl9 := Lib.hid (Hl.out.up hb9)
            have Hb9 := Lib.hid (Hb.out.trans (hb9.mono Hb.out.size))
            clear hr9 hb9
            go_wp2
            go_ret2
            exact ⟨_, _, _, _, rfl, Hl9.out, Hr9.out, Hb9.out, .inr ⟨Hm.out, hs, os, al, by rw [HeR.out]; exact Hg.out, Hreach.out, rfl, rfl⟩⟩

end Wp
end Go.Proofs.Ytmgfhehnehcmpaa
