/- What the law on the rank asks: columns the other way round, and times a number; two rows of rows that grow side by side; Sum's answer in a block of its own. -/
import Derived.Test.YtmnhpccdhefddaaDoorLApp
import Derived.Test.YtmnhpccdhefddaaDoorLRefSum
namespace Go.Proofs.YtmnhpccdhefddaaDoor
open Go.RowKit
namespace Wp

theorem own_of_rowIs {w : World} {g base n : Nat} {f : Nat → Int} (h : w.rowIs g 3 n fun i => .int .i64 (f i)) (hb : base ≤ g) (hn : n ≤ maxLen) : w.ownsRow base 3 1 (.slice (some ⟨g, 0, none⟩) n n) n (ints ((List.range n).map f)) := by
  obtain ⟨c, h1, h2, h3⟩ := h
  refine ⟨by simp [ints], .inr ⟨g, n, c, rfl, hb, h1, Nat.le_refl _, hn, by omega, ?_⟩⟩
  apply List.ext_getElem
  · simp [ints, h2]
  · intro i h4 h5
    have hi : i < n := by simpa [ints] using h5
    have := h3 i hi
    rw [List.getElem_take]
    rw [Array.getElem?_eq_getElem (by omega)] at this
    injection this with this
    simp [ints, this]
set_option maxHeartbeats 8000000 in
set_option maxRecDepth 100000 in
theorem refsum_own (p : Int) (R : Nat) (v vt : Value) (cols : List (List Int)) (times : List Int) (w : World) (hp1 : 2 ≤ p) (hp2 : p ≤ 2147483647) (hr : Rows2 w w.heap.size v cols) (ht : Row w w.heap.size vt times) (hR : R ≤ 64) (hn : cols.length ≤ 64) (hc : ColsIn p R cols) (htn : times.length ≤ 1048576) (htm : ModIn p times) :
    Calls Tryd.prog 17 #[.int .i64 p, .int .i64 R, v, vt] w fun e w' => e = .returned (.slice (some ⟨w.heap.size, 0, none⟩) R R) ∧ w'.ownsRow w.heap.size 3 1 (.slice (some ⟨w.heap.size, 0, none⟩) R R) R (ints (sumL p R cols times)) ∧ Below w.heap.size w w' := by
  have Hc := Lib.hid hc
  have Ht := Lib.hid htm
  obtain ⟨A, c, rfl, _, hcell⟩ := hr
  obtain ⟨At, ct, rfl, _, htcell⟩ := ht
  have Hcell := Lib.hid hcell
  have Htc := Lib.hid htcell
  have hn' : (cols.length : Int) ≤ 64 := by omega
  have htn' : (times.length : Int) ≤ 1048576 := by omega
  have hmk := fun W => run_make_row' 26 3 (.int .i64 0) 8 Tryd.underlying26 info3 rfl .i64 .i64 R (by omega) (by omega) W
  have Hs0 : Hid (SumAt (w.alloc (.cells (madeCells #[.int .i64 0] R) 3)) w.heap.size R (fun r => partS cols times 0 r % p)) :=
    World.rowIs.congr (World.rowIs_made w (.int .i64 0) R 3) fun i _ => by simp only [partS_zero]; rfl
  have Hb0 := Lib.hid ((Below.refl w.heap.size w).alloc (Nat.le_refl _) (.cells (madeCells #[.int .i64 0] R) 3))
  clear hc htm hcell htcell
  go_enter Tryd.func17, Tryd.ntmps17
  go_wp2
  go_loopw [10] (fun vi wr => ∃ i : Nat, vi = .int .i64 i ∧ i ≤ cols.length ∧ i ≤ times.length ∧ SumAt wr w.heap.size R (fun r => partS cols times i r % p) ∧ Below w.heap.size w wr) (fun vi _ => cols.length - (intOf vi).toNat)
  case atStart => exact ⟨0, rfl, Nat.zero_le _, Nat.zero_le _, Hs0.out, Hb0.out⟩
  case round =>
    clear Hs0 Hb0 hmk
    obtain ⟨i, rfl, hi, hit, hsum, hbr⟩ := hrel
    have Hsum := Lib.hid hsum
    have Hbr := Lib.hid hbr
    clear hsum hbr
    have hend : (¬ i < cols.length ∨ ¬ i < times.length) → Hid (wr.ownsRow w.heap.size 3 1 (.slice (some ⟨w.heap.size, 0, none⟩) R R) R (ints (sumL p R cols times))) := by
      intro h
      have e : i = min cols.length times.length := by omega
      have := (Hsum.out.congr (f' := fun r => lin times (cols.map vec) r % p) fun r _ => by rw [partS_end e])
      exact own_of_rowIs this (Nat.le_refl _) (by unfold maxLen; omega)
    by_cases hlt : i < cols.length
    · by_cases hltt : i < times.length
      · obtain ⟨ad, u, hA, hab, hcu, hru⟩ := Hcell.out i hlt
        subst hA
        obtain ⟨adt, hAt, habt, hct⟩ := Htc.out i hltt
        subst hAt
        obtain ⟨Au, cu, rfl, _, hcr⟩ := hru
        have hin := Hc.out i hlt
        have hstep := fun r => partS_step hlt hltt r
        have htr := Ht.out i
        generalize cols.getD i [] = col at *
        generalize times.getD i 0 = t at *
        have Hin := Lib.hid hin
        have Hcr := Lib.hid hcr
        have Hstep := Lib.hid hstep
        rw [hin.1] at hcu
        have Hcu := Lib.hid hcu
        have Hct := Lib.hid hct
        have hltI : (i : Int) < (cols.length : Int) := by omega
        have htI : (i : Int) < (times.length : Int) := by omega
        have Hs1 : Hid (SumAt wr w.heap.size R (fun r => (if r < 0 then partS cols times (i + 1) r else partS cols times i r) % p)) := Hsum.out.congr fun r _ => by rw [if_neg (Nat.not_lt_zero _)]
        clear hin hcr hstep hcu hct hend
        go_wp2
        go_loopw [11] (fun vk wq => ∃ k : Nat, vk = .int .i64 k ∧ k ≤ R ∧ SumAt wq w.heap.size R (fun r => (if r < k then partS cols times (i + 1) r else partS cols times i r) % p) ∧ Below w.heap.size w wq) (fun vk _ => R - (intOf vk).toNat)
        case atStart => exact ⟨0, rfl, Nat.zero_le _, Hs1.out, Hbr.out⟩
        case round =>
          clear Hs1 Hbr Hsum
          obtain ⟨k, rfl, hk, hsum, hbr⟩ := hrel
          have Hsum := Lib.hid hsum
          have Hbr := Lib.hid hbr
          clear hsum hbr
          by_cases hkR : k < R
          · have hkI : (k : Int) < (R : Int) := by omega
            obtain ⟨ac, hAc, hacb, hcc⟩ := Hcr.out k (by rw [Hin.out.1]; exact hkR)
            subst hAc
            have g1 := (Hbr.out.cell (p := ad.add i) (by rw [add_block]; exact hab)).trans Hcu.out
            have g2 := (Hbr.out.cell (p := adt.add i) (by rw [add_block]; exact habt)).trans Hct.out
            have g3 := (Hbr.out.cell (p := ac.add k) (by rw [add_block]; exact hacb)).trans hcc
            have g4 := World.rowIs.cell Hsum.out hkR
            simp only [if_neg (Nat.lt_irrefl k)] at g4
            have hfz : wr.frozen? ⟨w.heap.size, k, none⟩ = false := World.rowIs.frozen Hsum.out k
            have hcr1 := Hin.out.get (by omega) k
            have hst := Hstep.out k
            obtain ⟨x, hx⟩ : ∃ x, x = col.getD k 0 := ⟨_, rfl⟩
            rw [← hx] at g3 hcr1 hst
            obtain ⟨y, hy⟩ : ∃ y, y = partS cols times i k % p := ⟨_, rfl⟩
            rw [← hy] at g4
            have hyr : 0 ≤ y ∧ y < p := by rw [hy]; exact em_lt (by omega)
            have hm := mul_in hp2 hcr1.1 hcr1.2 htr.1 htr.2
            have hw1 : IntKind.i64.wrap (x * t) = x * t := by rw [IntKind.wrap_i64]; omega
            have hw2 : IntKind.i64.wrap (y + x * t) = y + x * t := by rw [IntKind.wrap_i64]; omega
            obtain ⟨q, hq⟩ : ∃ q, q = (y + x * t) % p := ⟨_, rfl⟩
            have htm : (y + x * t).tmod p = q := by rw [hq]; exact Int.tmod_eq_emod_of_nonneg (by omega)
            have hp0 : ¬ p = 0 := by omega
            have Hqv : Hid (partS cols times (i + 1) k % p = q) := by
              show _ = _
              rw [hq, hy, hst, Int.mul_comm t x, Int.emod_add_emod]
            clear hcc hx hy hst hq hm
            go_wp2
            refine wp_region_still_tail 22 (by kernel_rfl) (by kernel_rfl) ?_
            simp only [List.take_succ_cons, List.take_zero, List.drop_succ_cons, List.drop_zero]
            repeat still_step
            try refine wpStill_nil ?_
            change wpList _ _ _ _ _ wr.drew
            go_wp2
            go_roundw
            case rel =>
              refine ⟨k + 1, by go_num, by omega, (Hsum.out.set k q).congr fun r _ => ?_, (Hbr.out.setCell (p := ⟨w.heap.size, k, none⟩) (Nat.le_refl _) _).drew⟩
              by_cases e : r = k
              · subst e
                rw [if_pos rfl, if_pos (Nat.lt_succ_self _)]
                exact Hqv.out.symm
              · rw [if_neg e]
                by_cases e2 : r < k
                · rw [if_pos e2, if_pos (by omega)]
                · rw [if_neg e2, if_neg (by omega)]
            case measure => simp [intOf]; omega
          · have hke : k = R := by omega
            subst hke
            have Hs2 := Lib.hid (Hsum.out.congr (f' := fun r => partS cols times (i + 1) r % p) fun r hr => by simp only [if_pos hr])
            clear Hsum
            go_wp2
            go_roundw
            case rel => exact ⟨i + 1, by go_num, by omega, by omega, Hs2.out, Hbr.out⟩
            case measure => simp [intOf]; omega
      · have He := hend (.inr hltt)
        have hltI : (i : Int) < (cols.length : Int) := by omega
        have hltN : ¬ (i : Int) < (times.length : Int) := by omega
        clear hend
        go_wp2
        go_ret
        exact ⟨rfl, He.out, Hbr.out⟩
    · have He := hend (.inl hlt)
      have hie : i = cols.length := by omega
      clear hend
      subst hie
      go_wp2
      go_ret
      exact ⟨rfl, He.out, Hbr.out⟩

structure RKeep (w wr : World) (vb vt : Value) (us vs : List Value) (B T : List (List Int)) : Prop where
  outb : wr.ownsRow w.heap.size 26 1 vb us.length us
  lenb : us.length = B.length
  rowb : ∀ (i : Nat) (u : Value) (q : List Int), us[i]? = some u → B[i]? = some q → Row w w.heap.size u q
  outt : wr.ownsRow w.heap.size 26 1 vt vs.length vs
  fam : Fam wr w.heap.size vs T
  dis : vb.ownBlock ≠ vt.ownBlock
  bel : Below w.heap.size w wr
section
variable {w wr w2 : World} {vb vt : Value} {us vs : List Value} {B T : List (List Int)}
theorem RKeep.start (w : World) : RKeep w ((w.alloc (.cells #[] 26)).alloc (.cells #[] 26)) (.slice (some ⟨w.heap.size, 0, none⟩) 0 0) (.slice (some ⟨w.heap.size + 1, 0, none⟩) 0 0) [] [] [] [] := by
  have h := World.ownsRow_lit (base := w.heap.size) (e := 26) (size := 1) (w.alloc (.cells #[] 26)) #[] 0 (by simp) (by unfold maxLen; omega) rfl
  rw [show (w.alloc (.cells #[] 26)).heap.size = w.heap.size + 1 by simp] at h
  exact ⟨World.ownsRow.alloc (World.ownsRow_lit w #[] 0 (Nat.le_refl _) (by unfold maxLen; omega) rfl) _, rfl, fun i u q h => by simp at h, h, fam_nil _ _, by simp [Value.ownBlock], below_two w _ _⟩
theorem RKeep.below (h : RKeep w wr vb vt us vs B T) (hb : Below wr.heap.size wr w2) : RKeep w w2 vb vt us vs B T :=
  ⟨own_kept_none h.outb hb, h.lenb, h.rowb, own_kept_none h.outt hb, h.fam.new (only_of_below hb none), h.dis, below_next h.bel (Nat.le_refl _) hb⟩
theorem RKeep.upA (h : RKeep w wr vb vt us vs B T) (o : Obj) : RKeep w (wr.alloc o) vb vt us vs B T := h.below ((Below.refl _ wr).alloc (Nat.le_refl _) o)
theorem RKeep.pushB (h : RKeep w wr vb vt us vs B T) {u : Value} {q : List Int} (hu : Row w w.heap.size u q) {v' : Value} (hown : w2.ownsRow w.heap.size 26 1 v' (us.length + 1) (us ++ [u])) (hg : wr.grownBy w2 vb.ownBlock)
    (hl : v'.ownBlock = vb.ownBlock ∨ v'.ownBlock = some wr.heap.size) : RKeep w w2 v' vt (us ++ [u]) vs (B ++ [q]) T := by
  refine ⟨by rw [List.length_append]; exact hown, by simp [h.lenb], fun i z p hz hp => ?_, h.outt.kept hg (.inr h.dis.symm), h.fam.outer h.outb hg, ?_, h.bel.grown hg h.bel.size (fun k hk => (h.outb.lt k hk).1)⟩
  · by_cases hi : i < us.length
    · rw [List.getElem?_append_left hi] at hz
      rw [List.getElem?_append_left (by rw [← h.lenb]; exact hi)] at hp
      exact h.rowb i z p hz hp
    · rw [List.getElem?_append_right (by omega)] at hz
      rw [List.getElem?_append_right (by rw [← h.lenb]; omega)] at hp
      have h0 := (List.getElem?_eq_some_iff.1 hz).1
      simp at h0
      have e1 : i - us.length = 0 := by omega
      rw [← h.lenb, e1] at hp
      rw [e1] at hz
      simp at hz hp
      subst hz hp
      exact hu
  · rcases hl with e | e
    · rw [e]; exact h.dis
    · rw [e]
      intro e2
      have := (h.outt.lt _ e2.symm).2
      omega
theorem RKeep.pushT (h : RKeep w wr vb vt us vs B T) {u : Value} {q : List Int} (hu : wr.ownsRow w.heap.size 3 1 u q.length (ints q)) (hd : ∀ v ∈ vs, v.ownBlock = none ∨ v.ownBlock ≠ u.ownBlock) {v' : Value} (hown : w2.ownsRow w.heap.size 26 1 v' (vs.length + 1) (vs ++ [u])) (hg : wr.grownBy w2 vt.ownBlock)
    (hl : v'.ownBlock = vt.ownBlock ∨ v'.ownBlock = some wr.heap.size) : RKeep w w2 vb v' us (vs ++ [u]) B (T ++ [q]) := by
  refine ⟨h.outb.kept hg (.inr h.dis), h.lenb, h.rowb, by rw [List.length_append]; exact hown, (h.fam.outer h.outt hg).push (hu.kept hg (own_ne hu h.outt (by decide))) hd, ?_, h.bel.grown hg h.bel.size (fun k hk => (h.outt.lt k hk).1)⟩
  rcases hl with e | e
  · rw [e]; exact h.dis
  · rw [e]
    intro e2
    have := (h.outb.lt _ e2).2
    omega
theorem RKeep.rowsB (h : RKeep w wr vb vt us vs B T) : Rows2 wr wr.heap.size vb B :=
  OwnR.rows (base := w.heap.size) ⟨us, h.outb, h.lenb, fun i u q hu hq => RowO.of_row ((h.rowb i u q hu hq).below h.bel) h.bel.size fun g hg => (h.outb.lt g hg).1⟩
theorem RKeep.rowsT (h : RKeep w wr vb vt us vs B T) : Rows2 wr wr.heap.size vt T := h.fam.rows h.outt
end
section
variable {p k : Int} {R : Nat}
def scaleL (p : Int) (R : Nat) (k : Int) (c : List Int) : List Int := sumL p R [c] [k]
def backC (cols : List (List Int)) (j : Nat) : List (List Int) := (cols.drop (cols.length - j)).reverse
def timesC (p : Int) (R : Nat) (k : Int) (cols : List (List Int)) (j : Nat) : List (List Int) := (backC cols j).map (scaleL p R k)
theorem backC_zero (cols : List (List Int)) : backC cols 0 = [] := by simp [backC]
theorem backC_all (cols : List (List Int)) : backC cols cols.length = cols.reverse := by simp [backC]
theorem backC_succ {cols : List (List Int)} {j : Nat} (h : j < cols.length) : backC cols (j + 1) = backC cols j ++ [cols.getD (cols.length - 1 - j) []] := by
  have h1 : cols.length - (j + 1) < cols.length := by omega
  unfold backC
  rw [List.drop_eq_getElem_cons h1, List.reverse_cons, show cols.length - (j + 1) + 1 = cols.length - j by omega]
  congr 2
  simp [List.getD, show cols.length - 1 - j < cols.length by omega, show cols.length - (j + 1) = cols.length - 1 - j by omega]
theorem timesC_succ {cols : List (List Int)} {j : Nat} (h : j < cols.length) : timesC p R k cols (j + 1) = timesC p R k cols j ++ [scaleL p R k (cols.getD (cols.length - 1 - j) [])] := by
  unfold timesC
  rw [backC_succ h, List.map_append]
  rfl
theorem backC_length {cols : List (List Int)} {j : Nat} (h : j ≤ cols.length) : (backC cols j).length = j := by simp [backC]; omega
theorem colsIn_back {cols : List (List Int)} (h : ColsIn p R cols) : ColsIn p R cols.reverse := by
  intro i hi
  have hi' : i < cols.length := by simpa using hi
  have := h (cols.length - 1 - i) (by omega)
  rwa [show cols.reverse.getD i [] = cols.getD (cols.length - 1 - i) [] by simp [List.getD, List.getElem?_reverse hi']]
theorem rank_back (h1 : prB p = true) (hR : R ≤ 64) {cols : List (List Int)} (hn : cols.length ≤ 64) (hc : ColsIn p R cols) : rankI p R (backC cols cols.length) = rankI p R cols := by
  rw [backC_all, rankI_rk h1 hR (by simpa using hn) (colsIn_back hc), rankI_rk h1 hR hn hc, rk_perm (fld_ok h1) (us := cols.reverse.map vec) (ws := cols.map vec) fun x => by simp]
theorem colsIn_scale (hp : 0 < p) (l : List (List Int)) : ColsIn p R (l.map (scaleL p R k)) := by
  intro i hi
  have hi' : i < l.length := by simpa using hi
  rw [show (l.map (scaleL p R k)).getD i [] = scaleL p R k l[i] by simp [List.getD, hi']]
  exact sumL_in hp _ _
theorem rank_times (h1 : prB p = true) (hR : R ≤ 64) (hk : 0 < k) (hk2 : k < p) {cols : List (List Int)} (hn : cols.length ≤ 64) (hc : ColsIn p R cols) : rankI p R (timesC p R k cols cols.length) = rankI p R cols := by
  have hp := (prB_iff.1 h1).1
  unfold timesC
  rw [rankI_rk h1 hR (by simp [backC_all]; exact hn) (colsIn_scale (by omega) _), ← rank_back h1 hR hn hc, backC_all, rankI_rk h1 hR (by simpa using hn) (colsIn_back hc)]
  congr 1
  refine rk_scaled (fld_ok h1) (k := k) (fun hd => ?_) (by simp) ?_
  · have := zero_of_dvd hd (by omega) hk2
    omega
  · intro i h2 h3 r hr
    simp only [List.getElem_map]
    unfold vec scaleL
    rw [sumL_getD hr]
    simp only [List.map_cons, List.map_nil, lin]
    have := Int.dvd_self_sub_emod (x := k * vec (cols.reverse[i]'(by simpa using h2)) r + 0) (m := p)
    have e := (Int.dvd_neg).2 this
    unfold vec at e
    unfold vec
    rw [show -(k * (cols.reverse[i]'(by simpa using h2)).getD r 0 + 0 - (k * (cols.reverse[i]'(by simpa using h2)).getD r 0 + 0) % p) = (k * (cols.reverse[i]'(by simpa using h2)).getD r 0 + 0) % p - k * (cols.reverse[i]'(by simpa using h2)).getD r 0 by omega] at e
    exact e
theorem colsIn_drop {cols : List (List Int)} (h : ColsIn p R cols) (a : Nat) : ColsIn p R (cols.drop a) := by
  intro i hi
  have hi' : i < cols.length - a := by simpa using hi
  rw [show (cols.drop a).getD i [] = cols.getD (a + i) [] by simp [List.getD]]
  exact h _ (by omega)
theorem rank_facts (h1 : prB p = true) (hR : R ≤ 64) {cols : List (List Int)} (h0 : 0 < cols.length) (hn : cols.length ≤ 64) (hc : ColsIn p R cols) :
    0 ≤ rankI p R cols ∧ rankI p R cols ≤ cols.length ∧ rankI p R cols ≤ R ∧ rankI p R (cols.drop 1) ≤ rankI p R cols ∧ rankI p R cols ≤ rankI p R (cols.drop 1) + 1 := by
  rw [rankI_rk h1 hR hn hc, rankI_rk h1 hR (by simp; omega) (colsIn_drop hc 1)]
  have a1 := rk_len (p := p) (R := R) (us := cols.map vec)
  have a2 := rk_rows (R := R) (fld_ok h1) (cols.map vec)
  rw [List.length_map] at a1
  have a3 : rk p R ((cols.drop 1).map vec) ≤ rk p R (cols.map vec) ∧ rk p R (cols.map vec) ≤ rk p R ((cols.drop 1).map vec) + 1 := by
    cases cols with
    | nil => simp at h0
    | cons c t =>
      simp only [List.drop_succ_cons, List.drop_zero, List.map_cons]
      by_cases h : InSp p R (t.map vec) (vec c)
      · rw [rk_cons_in h]; omega
      · rw [rk_cons_out h]; omega
  omega
theorem Rows2.sub {w : World} {B : Nat} {ad : Addr} {n c : Nat} {pp : List (List Int)} (h : Rows2 w B (.slice (some ad) n c) pp) {i m : Nat} (him : i + m ≤ pp.length) {A' : Option Addr} (hA : A' = some (ad.add i) ∨ m = 0) (hA0 : A' ≠ none) : Rows2 w B (.slice A' m (c - i)) ((pp.drop i).take m) := by
  obtain ⟨A0, c0, hv, hn, hk⟩ := h
  injection hv with h1 h2 h3
  subst h1 h3
  have hl : ((pp.drop i).take m).length = m := by simp; omega
  refine ⟨A', c - i, by rw [hl], ⟨by rw [hl]; omega, by omega, fun e => absurd e hA0⟩, fun k hlt => ?_⟩
  rw [hl] at hlt
  obtain ⟨ad', u, hA', hB, h4, h5⟩ := hk (i + k) (by omega)
  injection hA' with hA'
  subst hA'
  obtain rfl := hA.resolve_right (by omega)
  refine ⟨_, u, rfl, by rw [add_block]; exact hB, by rw [Addr.add_add]; exact h4, ?_⟩
  rwa [show ((pp.drop i).take m).getD k [] = pp.getD (i + k) [] by simp [List.getD, hlt]]
end


end Wp
end Go.Proofs.YtmnhpccdhefddaaDoor
