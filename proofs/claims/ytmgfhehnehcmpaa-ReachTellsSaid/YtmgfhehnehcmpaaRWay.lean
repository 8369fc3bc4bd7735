/- The way back from what was come to: the program's way, walked. -/
import Derived.Test.YtmgfhehnehcmpaaRWalk
import Derived.Test.YtmgfhehnehcmpaaSSort
namespace Go.Proofs
open Go.RowKit Go.Sort Go.Lib
namespace Ytmgfhehnehcmpaa.Wp

theorem way_fun {come : List Int} {par : Nat → Nat} {ns j : Nat} {l : List Int} (h : Way come par ns j l) : (j < ns ∧ l = [cAt come j]) ∨ (ns ≤ j ∧ ∃ l', l = l' ++ [cAt come j] ∧ Way come par ns (par j) l') := by
  cases h with
  | start _ h => exact .inl ⟨h, rfl⟩
  | next _ l h hw => exact .inr ⟨h, l, rfl, hw⟩
theorem way_len {come : List Int} {par : Nat → Nat} {ns j : Nat} {l : List Int} (h : Way come par ns j l) (hp : ∀ j, ns ≤ j → j < come.length → par j < j) (hj : j < come.length) : l.length ≤ j + 1 := by
  induction h with
  | start _ h => simp
  | next j l h hw ih =>
    have := hp j h hj
    have := ih (by omega)
    simp
    omega
theorem reverse_own (base : Nat) (v : Value) (zs : List Int) (w : World) (hown : w.ownsRow base 3 1 v (ints zs).length (ints zs)) (hz : zs.length ≤ 4096) :
    Calls Try.prog 52 #[v] w fun e w' => e = .returned (.tuple #[]) ∧ w'.ownsRow base 3 1 v (ints zs.reverse).length (ints zs.reverse) ∧ w.grownBy w' v.ownBlock := by
  rcases hown.2 with ⟨rfl, h0⟩ | ⟨g, cap, cur, rfl, hb, hg, hcl, hcm, h3, h4⟩
  · have hz0 : zs = [] := List.eq_nil_of_length_eq_zero (by simpa [ints_length] using h0)
    subst hz0
    refine (Try.slices_Reverse_int_empty none 0 w).mono ?_
    rintro e w' ⟨rfl, hw⟩
    subst hw
    exact ⟨rfl, hown, ⟨rfl, rfl, rfl, Nat.le_refl _, fun _ _ _ => rfl⟩⟩
  · have hlen := ints_length zs
    rw [hlen] at h4 ⊢
    have hown' := hown
    rw [hlen] at hown'
    have hH := holds_of_blockI (ss := zs) hg (by simpa [ints] using h4)
    refine (Try.slices_Reverse_int g 0 cap zs w hH (by omega)).mono ?_
    rintro e w' ⟨rfl, q, rfl⟩
    refine ⟨rfl, ?_, ?_⟩
    · have h := Lib.ownsRow_putRow (q := q) (k := zs.length) (ys := zs.reverse) (enc := Value.int .i64) (zs := zs) hown' (by simp) (Nat.le_refl _)
      rw [ints_length, List.length_reverse]
      simpa [ints, List.take_of_length_le] using h
    · exact ⟨rfl, rfl, rfl, by simp [putRow, mapBlock, Sort.ahead], fun k hk hne => by
        have : g ≠ k := by intro e; exact hne (by rw [e]; rfl)
        simp [putRow, mapBlock, Sort.ahead, Array.getElem?_modify, this]⟩

set_option maxHeartbeats 4000000 in
set_option maxRecDepth 100000 in
theorem way_any (cv : Value) (g : Nat) (adj : List (List Int)) (src come : List Int) (ah : Nat → Int) (par : Nat → Nat) (j : Nat) (l : List Int) (w : World) (hc : Row w w.heap.size cv come) (ha : NumsK w g adj.length ah) (hd : Done adj src come ah par) (hj : j < come.length) (hw : Way come par src.length j l) (hn : adj.length ≤ 4096) :
    Calls Try.prog 37 #[.agg #[cv, .slice (some ⟨g, 0, none⟩) adj.length adj.length], .int .i64 (cAt come j)] w (Gives w l) := by
  obtain ⟨Ac, cc, rfl, -⟩ := hc
  have hcl := hd.len
  have hll : l.length ≤ 4096 := by
    have := way_len hw (fun j h1 h2 => (hd.old j h1 h2).1) hj
    omega
  have Hd := Lib.hid hd
  have Hw := Lib.hid hw
  have hga := World.rowIs.lt ha
  have Hb0 := Lib.hid ((Below.refl w.heap.size w).alloc (Nat.le_refl _) (.cells #[.slice Ac come.length cc, .slice (some ⟨g, 0, none⟩) adj.length adj.length] 52))
  have Hbx := Lib.hid (Blk.new w 52 #[.slice Ac come.length cc, .slice (some ⟨g, 0, none⟩) adj.length adj.length])
  have Ha := Lib.hid ha
  clear ha hd hw
  go_enter Try.func37, Try.ntmps37
  go_wp2
  go_loopw [1, 5] (fun vp vl wr => ∃ cur : List Int, wr.ownsRow (w.heap.size + 1) 3 1 vl (ints cur).length (ints cur) ∧ Below w.heap.size w wr ∧ Blk wr w.heap.size 52 #[.slice Ac come.length cc, .slice (some ⟨g, 0, none⟩) adj.length adj.length] ∧ cur.length ≤ l.length ∧ lenOf vl = cur.length ∧
      ((vp = .int .i64 (-2) ∧ cur.reverse = l) ∨ ∃ (q : Nat) (i : Nat) (pre : List Int), vp = .int .i64 q ∧ cAt come i = (q : Int) ∧ i < come.length ∧ Way come par src.length i pre ∧ pre ++ cur.reverse = l)) (fun _ vl _ => l.length + 1 - lenOf vl)
  case atStart =>
    obtain ⟨q, hq⟩ : ∃ q : Nat, cAt come j = (q : Int) := ⟨(cAt come j).toNat, by have := (Hd.out.pt _ (cAt_mem hj)).1; omega⟩
    exact ⟨[], World.ownsRow_nil _ _ _ _, Hb0.out, Hbx.out, Nat.zero_le _, rfl, .inr ⟨q, j, l, by rw [hq], hq, hj, Hw.out, by simp⟩⟩
  case round =>
    clear Hbx Hb0
    obtain ⟨cur, hown, hbr, hbox, hlen, hlo, hcase⟩ := hrel
    have Hown := Lib.hid hown
    have Hbr := Lib.hid hbr
    have Hbox := Lib.hid hbox
    have Hlo := Lib.hid hlo
    have hsz := Blk.lt hbox
    clear hown hbr hbox hlo
    rcases hcase with ⟨rfl, hrev⟩ | ⟨q, i, pre, rfl, hq, hi, hway, hpre⟩
    · have Hrev := Lib.hid hrev
      clear hrev
      go_wp2_with fail
      refine (reverse_own (w.heap.size + 1) _ cur wr Hown.out (by omega)).mono ?_
      rintro e w2 ⟨rfl, hown2, hg2⟩
      have Hb2 : Hid (Below w.heap.size w w2) := Lib.hid (Hbr.out.grown hg2 Hbr.out.size (fun k hk => by have := (Hown.out.lt k hk).1; omega))
      have Hr2 := Lib.hid (Row.of_own (zs := cur.reverse) hown2 (ints_length _))
      clear hown2 hg2
      go_wp2
      go_ret
      exact ⟨_, rfl, by rw [← Hrev.out]; exact Hr2.out, Hb2.out⟩
    · have hqn : q < adj.length := by
        have := (Hd.out.pt _ (cAt_mem hi)).2
        omega
      have hq2 : ¬ ((q : Int) = -2) := by omega
      have hqI : (q : Int) < (adj.length : Int) := by omega
      have Hown2 := Lib.hid (World.ownsRow.alloc Hown.out (.cells #[.int .i64 (q : Int)] 3))
      have Hcell := Lib.hid (cellN wr _ rfl (.int .i64 (q : Int)) 3)
      have Hul : Hid ((ints cur).length ≤ 4194304) := Lib.hid (by rw [ints_length]; omega)
      have Hbig : Hid (w.heap.size + 1 ≤ (wr.alloc (.cells #[.int .i64 (q : Int)] 3)).heap.size) := Lib.hid (by simp; omega)
      have Hbr2 := Lib.hid (Hbr.out.alloc Hbr.out.size (.cells #[.int .i64 (q : Int)] 3))
      have Hbox2 := Lib.hid (Hbox.out.alloc (.cells #[.int .i64 (q : Int)] 3))
      have Hq := Lib.hid hq
      have Hway := Lib.hid hway
      have Hpre := Lib.hid hpre
      clear hq hway hpre
      go_wp2_with (at_builtin; go_loud (refine wpList_append_cell rfl _ _ 25 3 (.int .i64 0) 8 rfl Try.underlying25 info3 rfl (w.heap.size + 1) _ (.int .i64 (q : Int)) (ints cur) rfl Hown2.out wr.heap.size rfl Hcell.out rfl Hul.out (by omega) Hbig.out ?_))
      intro v7 w7 hown7 hgr7 hl7
      have Hb7 : Hid (Below w.heap.size w w7) := Lib.hid (Hbr2.out.grown hgr7 Hbr2.out.size (fun k hk => by have := (Hown2.out.lt k hk).1; omega))
      have Hbox7 : Hid (Blk w7 w.heap.size 52 #[.slice Ac come.length cc, .slice (some ⟨g, 0, none⟩) adj.length adj.length]) := Lib.hid (Hbox2.out.grown hgr7 (fun e => by have := (Hown2.out.lt _ e.symm).1; omega))
      have Hown7 : Hid (w7.ownsRow (w.heap.size + 1) 3 1 v7 (ints (cur ++ [(q : Int)])).length (ints (cur ++ [(q : Int)]))) := Lib.hid (by
        rw [ints_append, List.length_append]
        exact hown7)
      have Hlo7 : Hid (lenOf v7 = (cur ++ [(q : Int)]).length) := Lib.hid (by
        obtain ⟨A, c, e, _⟩ := Row.of_own (zs := cur ++ [(q : Int)]) Hown7.out (ints_length _)
        rw [e]; rfl)
      have g1 := Blk.cell Hbox7.out 1
      have g2 := NumsK.at (World.rowIs.of_block Ha.out (Hb7.out.block g hga)) hqn
      rcases way_fun Hway.out with ⟨hs, rfl⟩ | ⟨hs, pre', rfl, hw'⟩
      · have hah : ah q = -2 := by
          have := Hd.out.start i hs
          rwa [Hq.out, Int.toNat_natCast] at this
        have hrev : (cur ++ [(q : Int)]).reverse = l := by rw [← Hpre.out, Hq.out]; simp
        have hle : (cur ++ [(q : Int)]).length ≤ l.length := by rw [← hrev]; simp
        rw [hah] at g2
        have Hrev := Lib.hid hrev
        clear hown7 hgr7 hl7 Hown2 Hcell Hul Hbig Hbr2 Hbox2 hah hrev
        go_wp2
        go_roundw
        case rel => exact ⟨cur ++ [(q : Int)], Hown7.out, Hb7.out, Hbox7.out, hle, Hlo7.out, .inl ⟨rfl, Hrev.out⟩⟩
        case measure => rw [Hlo7.out, Hlo.out]; simp; omega
      · obtain ⟨a1, _, a3, _⟩ := Hd.out.old i hs hi
        obtain ⟨q', hq'⟩ : ∃ q' : Nat, cAt come (par i) = (q' : Int) := ⟨(cAt come (par i)).toNat, by have := (Hd.out.pt _ (cAt_mem (show par i < come.length by omega))).1; omega⟩
        have hah : ah q = (q' : Int) := by
          rw [Hq.out, Int.toNat_natCast] at a3
          rw [a3, hq']
        have hrev : pre' ++ (cur ++ [(q : Int)]).reverse = l := by rw [← Hpre.out, Hq.out]; simp
        have hle : (cur ++ [(q : Int)]).length ≤ l.length := by rw [← hrev]; simp
        rw [hah] at g2
        have Hrev := Lib.hid hrev
        have Hw' := Lib.hid hw'
        have Hq' := Lib.hid hq'
        clear hown7 hgr7 hl7 Hown2 Hcell Hul Hbig Hbr2 Hbox2 hah hrev a3 hw' hq'
        go_wp2
        go_roundw
        case rel => exact ⟨cur ++ [(q : Int)], Hown7.out, Hb7.out, Hbox7.out, hle, Hlo7.out, .inr ⟨q', par i, pre', rfl, Hq'.out, by omega, Hw'.out, Hrev.out⟩⟩
        case measure => rw [Hlo7.out, Hlo.out]; simp; omega

end Ytmgfhehnehcmpaa.Wp
end Go.Proofs
