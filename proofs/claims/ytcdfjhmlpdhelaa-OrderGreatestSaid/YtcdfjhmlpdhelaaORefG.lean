/- The places of a list by the document's own way: each laid where it belongs; walked; and the law of the places. -/
import Derived.Test.YtcdfjhmlpdhelaaOFixed
import Derived.Test.YtcdfjhmlpdhelaaOLawP
namespace Go.Proofs.Ytcdfjhmlpdhelaa
open Go Go.RowKit
namespace Wp

section
variable {l : List Int} {i y : Int}
theorem layB_past : ∀ {a : List Int}, (∃ z ∈ a, l.getD z.toNat 0 < l.getD i.toNat 0) → layB l i (a ++ [y]) = layB l i a ++ [y]
  | [], h => by obtain ⟨z, hz, _⟩ := h; simp at hz
  | b :: a, h => by
    rw [List.cons_append]
    unfold layB
    split
    · rfl
    · rename_i hb
      rw [layB_past]
      · rfl
      · obtain ⟨z, hz, hx⟩ := h
        rcases List.mem_cons.1 hz with e | hz
        · rw [e] at hx; exact absurd hx hb
        · exact ⟨z, hz, hx⟩
theorem layB_here : ∀ {a : List Int}, (∀ z ∈ a, ¬ l.getD z.toNat 0 < l.getD i.toNat 0) → l.getD y.toNat 0 < l.getD i.toNat 0 → layB l i (a ++ [y]) = a ++ [i, y]
  | [], _, h => by
    show layB l i [y] = _
    unfold layB
    rw [if_pos h]
    rfl
  | b :: a, hb, h => by
    rw [List.cons_append]
    unfold layB
    rw [if_neg (hb b (by simp)), layB_here (fun z hz => hb z (by simp [hz])) h]
    rfl
theorem layB_end : ∀ {a : List Int}, (∀ z ∈ a, ¬ l.getD z.toNat 0 < l.getD i.toNat 0) → layB l i a = a ++ [i]
  | [], _ => rfl
  | b :: a, hb => by
    unfold layB
    rw [if_neg (hb b (by simp)), layB_end (fun z hz => hb z (by simp [hz]))]
    rfl
end
/-- What stands in next behind m of out's places. -/
def LB (l : List Int) (i : Int) (out : List Int) (m : Nat) (laid : Bool) (next : List Int) : Prop :=
  (laid = false ∧ (∀ z ∈ out.take m, ¬ l.getD z.toNat 0 < l.getD i.toNat 0) ∧ next = out.take m) ∨ (laid = true ∧ (∃ z ∈ out.take m, l.getD z.toNat 0 < l.getD i.toNat 0) ∧ next = layB l i (out.take m))
section
variable {l out next : List Int} {i : Int} {m : Nat}
theorem lb_start (l : List Int) (i : Int) (out : List Int) : LB l i out 0 false [] := .inl ⟨rfl, by simp, rfl⟩
theorem lb_take (hm : m < out.length) : out.take (m + 1) = out.take m ++ [out.getD m 0] := by
  rw [List.take_succ_eq_append_getElem hm]; simp [List.getD, hm]
theorem lb_lay (hm : m < out.length) (h : LB l i out m false next) (hx : l.getD (out.getD m 0).toNat 0 < l.getD i.toNat 0) : LB l i out (m + 1) true (next ++ [i] ++ [out.getD m 0]) := by
  rcases h with ⟨_, h1, h2⟩ | ⟨h, _⟩
  · refine .inr ⟨rfl, ⟨_, by rw [lb_take hm]; exact List.mem_append.2 (.inr (List.mem_singleton.2 rfl)), hx⟩, ?_⟩
    rw [lb_take hm, layB_here h1 hx, h2, List.append_assoc]
    rfl
  · cases h
theorem lb_less (hm : m < out.length) (h : LB l i out m false next) (hx : ¬ l.getD (out.getD m 0).toNat 0 < l.getD i.toNat 0) : LB l i out (m + 1) false (next ++ [out.getD m 0]) := by
  rcases h with ⟨_, h1, h2⟩ | ⟨h, _⟩
  · refine .inl ⟨rfl, fun z hz => ?_, by rw [lb_take hm, h2]⟩
    rw [lb_take hm, List.mem_append, List.mem_singleton] at hz
    rcases hz with hz | hz
    · exact h1 z hz
    · rw [hz]; exact hx
  · cases h
theorem lb_laid (hm : m < out.length) (h : LB l i out m true next) : LB l i out (m + 1) true (next ++ [out.getD m 0]) := by
  rcases h with ⟨h, _⟩ | ⟨_, ⟨z, hz, hx⟩, h2⟩
  · cases h
  · refine .inr ⟨rfl, ⟨z, by rw [lb_take hm]; exact List.mem_append.2 (.inl hz), hx⟩, ?_⟩
    rw [lb_take hm, layB_past ⟨z, hz, hx⟩, h2]
theorem lb_done (h : LB l i out out.length true next) : next = layB l i out := by
  rcases h with ⟨h, _⟩ | ⟨_, _, h2⟩
  · cases h
  · rw [h2, List.take_length]
theorem lb_last (h : LB l i out out.length false next) : next ++ [i] = layB l i out := by
  rcases h with ⟨_, h1, h2⟩ | ⟨h, _⟩
  · rw [List.take_length] at h1 h2
    rw [h2, layB_end h1]
  · cases h
theorem lb_len {laid : Bool} (h : LB l i out m laid next) : next.length ≤ out.length + 1 := by
  rcases h with ⟨_, _, h2⟩ | ⟨_, _, h2⟩
  · rw [h2, List.length_take]; omega
  · rw [h2, (layB_perm l i _).length_eq, List.length_cons, List.length_take]; omega
end

set_option maxHeartbeats 8000000 in
set_option maxRecDepth 100000 in
theorem refgreat_any (v : Value) (l : List Int) (w : World) (hr : Row w w.heap.size v l) (hl : l.length ≤ 2097152) : Calls Try.prog 32 #[v] w (Gives w (greatL l)) := by
  obtain ⟨A, c, rfl, _, hcell⟩ := hr
  have Hcell := Lib.hid hcell
  clear hcell
  have hl' : (l.length : Int) ≤ 2097152 := by omega
  have hB0 : Below w.heap.size w (w.alloc (.cells #[] 3)) := (Below.refl _ w).alloc (Nat.le_refl _) _
  have hr0 : Row (w.alloc (.cells #[] 3)) (w.alloc (.cells #[] 3)).heap.size (.slice (some ⟨w.heap.size, 0, none⟩) 0 0) (placesR l 0) := (Row.lit0 w).here
  have Hall := Lib.hid (show placesR l l.length = greatL l from rfl)
  go_enter Try.func32, Try.ntmps32
  go_wp2
  go_loopw [3, 4] (fun vo vi wr => ∃ k : Nat, vi = .int .i64 k ∧ k ≤ l.length ∧ Row wr wr.heap.size vo (placesR l k) ∧ Below w.heap.size w wr) (fun _ vi _ => l.length - (intOf vi).toNat)
  case atStart => exact ⟨0, rfl, Nat.zero_le _, hr0, hB0⟩
  case round =>
    obtain ⟨k, rfl, hk, hro, hbr⟩ := hrel
    clear hr0 hB0
    by_cases hlt : k < l.length
    · obtain ⟨ad, hA, hab, hg⟩ := Hcell.out k hlt
      subst hA
      have hkl : (k : Int) < (l.length : Int) := by omega
      have hol : (placesR l k).length ≤ k := by rw [(placesR_ok l k).1.length_eq, idxs_length]; exact Nat.le_refl _
      have Hmem := Lib.hid (fun y (hy : y ∈ placesR l k) => show ∃ q : Nat, y = (q : Int) ∧ q < l.length by
        have := mem_idxs.1 ((placesR_ok l k).1.mem_iff.1 hy)
        exact ⟨y.toNat, by omega, by omega⟩)
      have Hnext := Lib.hid (show placesR l (k + 1) = layB l (k : Int) (placesR l k) from rfl)
      have HLB := Lib.hid (lb_start l (k : Int) (placesR l k))
      generalize placesR l k = out at hro hol Hmem Hnext HLB
      have HX0 : Hid (l.getD (k : Int).toNat 0 = l.getD k 0) := Lib.hid (by rw [Int.toNat_natCast])
      obtain ⟨x, hx⟩ : ∃ x, l.getD k 0 = x := ⟨_, rfl⟩
      rw [hx] at hg HX0
      have g1 : wr.cell? (ad.add k) = some (.int .i64 x) := (hbr.cell (by rw [add_block]; exact hab)).trans hg
      have Hg := Lib.hid hg
      have HW := Lib.hid hbr
      clear hg hx
      have w5 := wr
      have Hro := Lib.hid hro
      obtain ⟨Ao, co, rfl, _, hocell⟩ := hro
      have Hocell := Lib.hid hocell
      clear hocell
      have hown0 : (wr.alloc (.cells #[] 3)).ownsRow wr.heap.size 3 1 (.slice (some ⟨wr.heap.size, 0, none⟩) 0 0) 0 [] :=
        World.ownsRow_made wr #[] 0 (Nat.le_refl _) (by unfold maxLen; omega) rfl
      have hb0 : Below wr.heap.size wr (wr.alloc (.cells #[] 3)) := (Below.refl _ wr).alloc (Nat.le_refl _) _
      have habw : ad.block < wr.heap.size := Nat.lt_of_lt_of_le hab hbr.size
      have Hg5 := Lib.hid g1
      have HBR := Lib.hid hbr
      clear g1 w5 hbr
      generalize hw5 : wr = w5 at *
      clear hw5
      go_wp2
      go_loopw [5, 6, 7] (fun vn vlaid vk wr => ∃ (m : Nat) (laid : Bool) (next : List Int), vk = .int .i64 m ∧ m ≤ out.length ∧ vlaid = .bool laid ∧ LB l (k : Int) out m laid next ∧ wr.ownsRow w5.heap.size 3 1 vn next.length (ints next) ∧ Below w5.heap.size w5 wr) (fun _ _ vk _ => out.length - (intOf vk).toNat)
      case atStart => exact ⟨0, false, [], rfl, Nat.zero_le _, rfl, HLB.out, hown0, hb0⟩
      case round =>
        obtain ⟨m, laid, next, rfl, hm, rfl, hI, hown, hb1⟩ := hrel
        clear hown0 hb0
        have hnl := lb_len hI
        by_cases hmlt : m < out.length
        · obtain ⟨ao, hAo, haob, hgo⟩ := Hocell.out m hmlt
          subst hAo
          have hml : (m : Int) < (out.length : Int) := by omega
          obtain ⟨q, hq, hqn⟩ := Hmem.out (out.getD m 0) (by rw [show out.getD m 0 = out[m] by simp [List.getD, hmlt]]; exact List.getElem_mem hmlt)
          have hqI : (q : Int) < (l.length : Int) := by omega
          obtain ⟨ad', hA', hab', hgq⟩ := Hcell.out q hqn
          injection hA' with hA'
          subst hA'
          obtain ⟨z, hz⟩ : ∃ z, l.getD q 0 = z := ⟨_, rfl⟩
          rw [hz] at hgq
          have HZ : Hid (l.getD (out.getD m 0).toNat 0 = z) := Lib.hid (by rw [hq, Int.toNat_natCast, hz])
          rw [hq] at hgo
          have g2 : wr.cell? (ao.add m) = some (.int .i64 (q : Int)) := (hb1.cell (by rw [add_block]; exact haob)).trans hgo
          have g1 : wr.cell? (ad.add k) = some (.int .i64 x) := (hb1.cell (by rw [add_block]; exact habw)).trans Hg5.out
          have g3 : wr.cell? (ad.add q) = some (.int .i64 z) := (hb1.cell (by rw [add_block]; exact habw)).trans ((HBR.out.cell (by rw [add_block]; exact hab)).trans hgq)
          have Hgo := Lib.hid hgo
          have Hlaid := Lib.hid (fun next h => lb_laid (l := l) (i := (k : Int)) (next := next) hmlt h)
          have Hlay := Lib.hid (fun next h hx => lb_lay (l := l) (i := (k : Int)) (out := out) (next := next) hmlt h (by rw [HZ.out, HX0.out]; exact hx))
          have Hless := Lib.hid (fun next h hx => lb_less (l := l) (i := (k : Int)) (out := out) (next := next) hmlt h (by rw [HZ.out, HX0.out]; exact hx))
          rw [hq] at Hlaid Hlay Hless
          clear hgo hgq hz hq HZ
          cases laid
          · have HI := Lib.hid hI
            clear hI Hlaid
            by_cases hxy : z < x
            · have Hf := Lib.hid (Hlay.out next HI.out hxy)
              have d1 : decide (z < x) = true := decide_eq_true hxy
              go_wp2
              go_quiet (fail)
              have hownq : (wr.drewN nq).ownsRow w5.heap.size 3 1 _ next.length (ints next) := hown
              have hbq : Below w5.heap.size w5 (wr.drewN nq) := below_drewN hb1 nq
              have g1q : (wr.drewN nq).cell? (ad.add k) = some (.int .i64 x) := g1
              have g2q : (wr.drewN nq).cell? (ao.add m) = some (.int .i64 (q : Int)) := g2
              clear hown hb1 g1 g2 g3
              generalize wr.drewN nq = wq at *
              go_wp2_with (at_builtin; refine wpList_append_row rfl _ _ rfl w5.heap.size _ _ _ next [(k : Int)] rfl rfl (hownq.alloc _) (Row.lit1 _ (k : Int)) (by omega) (by simp) (by have := hbq.size; simp; omega) ?_)
              intro v6 w6 hown6 hgrow
              have hown6 : w6.ownsRow w5.heap.size 3 1 v6 (next ++ [(k : Int)]).length (ints (next ++ [(k : Int)])) := by rw [List.length_append]; exact hown6
              have hb6 : Below w5.heap.size w5 w6 := (hbq.alloc hbq.size _).grown hgrow (by have := hbq.size; simp; omega) (fun i hi => (hownq.lt i hi).1)
              clear hgrow hownq hbq
              have g2' : w6.cell? (ao.add m) = some (.int .i64 (q : Int)) := (hb6.cell (by rw [add_block]; exact haob)).trans Hgo.out
              clear g1q g2q
              go_wp2_with (at_builtin; refine wpList_append_row rfl _ _ rfl w5.heap.size _ _ _ (next ++ [(k : Int)]) [(q : Int)] rfl rfl (hown6.alloc _) (Row.lit1 _ (q : Int)) (by rw [List.length_append]; show next.length + 1 ≤ _; omega) (by simp) (by have := hb6.size; simp; omega) ?_)
              intro v7 w7 hown7 hgrow
              have hown7 : w7.ownsRow w5.heap.size 3 1 v7 (next ++ [(k : Int)] ++ [(q : Int)]).length (ints (next ++ [(k : Int)] ++ [(q : Int)])) := by rw [show next ++ [(k : Int)] ++ [(q : Int)] = next ++ [(k : Int), (q : Int)] from by simp, List.length_append]; exact hown7
              have hb7 : Below w5.heap.size w5 w7 := (hb6.alloc hb6.size _).grown hgrow (by have := hb6.size; simp; omega) (fun i hi => (hown6.lt i hi).1)
              clear hgrow hown6 hb6
              go_wp2
              go_roundw
              case rel => exact ⟨m + 1, true, next ++ [(k : Int)] ++ [(q : Int)], by go_num, by omega, rfl, Hf.out, hown7, hb7⟩
              case measure => simp [intOf]; omega
            · have d1 : decide (z < x) = false := decide_eq_false hxy
              have Hf := Lib.hid (Hless.out next HI.out hxy)
              go_wp2
              go_quiet (fail)
              have hownq : (wr.drewN nq).ownsRow w5.heap.size 3 1 _ next.length (ints next) := hown
              have hbq : Below w5.heap.size w5 (wr.drewN nq) := below_drewN hb1 nq
              have g1q : (wr.drewN nq).cell? (ad.add k) = some (.int .i64 x) := g1
              have g2q : (wr.drewN nq).cell? (ao.add m) = some (.int .i64 (q : Int)) := g2
              clear hown hb1 g1 g2 g3
              generalize wr.drewN nq = wq at *
              go_wp2_with (at_builtin; refine wpList_append_row rfl _ _ rfl w5.heap.size _ _ _ next [(q : Int)] rfl rfl (hownq.alloc _) (Row.lit1 _ (q : Int)) (by omega) (by simp) (by have := hbq.size; simp; omega) ?_)
              intro v6 w6 hown6 hgrow
              have hown6 : w6.ownsRow w5.heap.size 3 1 v6 (next ++ [(q : Int)]).length (ints (next ++ [(q : Int)])) := by rw [List.length_append]; exact hown6
              have hb6 : Below w5.heap.size w5 w6 := (hbq.alloc hbq.size _).grown hgrow (by have := hbq.size; simp; omega) (fun i hi => (hownq.lt i hi).1)
              clear hgrow hownq hbq
              go_wp2
              go_roundw
              case rel => exact ⟨m + 1, false, next ++ [(q : Int)], by go_num, by omega, rfl, Hf.out, hown6, hb6⟩
              case measure => simp [intOf]; omega
          · have Hf := Lib.hid (Hlaid.out next hI)
            clear hI Hlay Hless
            go_wp2
            go_quiet (fail)
            have hownq : (wr.drewN nq).ownsRow w5.heap.size 3 1 _ next.length (ints next) := hown
            have hbq : Below w5.heap.size w5 (wr.drewN nq) := below_drewN hb1 nq
            have g1q : (wr.drewN nq).cell? (ad.add k) = some (.int .i64 x) := g1
            have g2q : (wr.drewN nq).cell? (ao.add m) = some (.int .i64 (q : Int)) := g2
            clear hown hb1 g1 g2 g3
            generalize wr.drewN nq = wq at *
            go_wp2_with (at_builtin; refine wpList_append_row rfl _ _ rfl w5.heap.size _ _ _ next [(q : Int)] rfl rfl (hownq.alloc _) (Row.lit1 _ (q : Int)) (by omega) (by simp) (by have := hbq.size; simp; omega) ?_)
            intro v6 w6 hown6 hgrow
            have hown6 : w6.ownsRow w5.heap.size 3 1 v6 (next ++ [(q : Int)]).length (ints (next ++ [(q : Int)])) := by rw [List.length_append]; exact hown6
            have hb6 : Below w5.heap.size w5 w6 := (hbq.alloc hbq.size _).grown hgrow (by have := hbq.size; simp; omega) (fun i hi => (hownq.lt i hi).1)
            clear hgrow hownq hbq
            go_wp2
            go_roundw
            case rel => exact ⟨m + 1, true, next ++ [(q : Int)], by go_num, by omega, rfl, Hf.out, hown6, hb6⟩
            case measure => simp [intOf]; omega
        · have hme : m = out.length := by omega
          subst hme
          cases laid
          · have Hf := Lib.hid (lb_last hI)
            clear hI
            go_wp2_with (at_builtin; refine wpList_append_row rfl _ _ rfl w5.heap.size _ _ _ next [(k : Int)] rfl rfl (hown.alloc _) (Row.lit1 _ (k : Int)) (by omega) (by simp) (by have := hb1.size; simp; omega) ?_)
            intro v6 w6 hown6 hgrow
            have hown6 : w6.ownsRow w5.heap.size 3 1 v6 (next ++ [(k : Int)]).length (ints (next ++ [(k : Int)])) := by rw [List.length_append]; exact hown6
            have hb6 : Below w5.heap.size w5 w6 := (hb1.alloc hb1.size _).grown hgrow (by have := hb1.size; simp; omega) (fun i hi => (hown.lt i hi).1)
            clear hgrow hown hb1
            go_wp2
            go_roundw
            case rel => exact ⟨k + 1, by go_num, by omega, by rw [Hnext.out, ← Hf.out]; exact Row.of_own hown6 rfl, HBR.out.trans (hb6.mono HBR.out.size)⟩
            case measure => simp [intOf]; omega
          · have Hf := Lib.hid (lb_done hI)
            clear hI
            go_wp2
            go_roundw
            case rel => exact ⟨k + 1, by go_num, by omega, by rw [Hnext.out, ← Hf.out]; exact Row.of_own hown rfl, HBR.out.trans (hb1.mono HBR.out.size)⟩
            case measure => simp [intOf]; omega
    · have hke : k = l.length := by omega
      subst hke
      rw [Hall.out] at hro
      go_wp2
      go_ret
      exact ⟨_, rfl, hro, hbr⟩

set_option maxHeartbeats 8000000 in
theorem ogreat_any (v : Value) (l : List Int) (w : World) (hr : Row w w.heap.size v l) : Calls Try.prog 7 #[v] w (Truly w) := by
  have HB0 := Lib.hid (Below.refl w.heap.size w)
  have HR0 := Lib.hid hr
  obtain ⟨A, c, rfl, _⟩ := hr
  by_cases hb : 100 < (l.length : Int)
  · go_enter Try.func7, Try.ntmps7
    go_wp2_with fail
    refine (ofixed_any _).mono ?_
    rintro e w1 ⟨rfl, hb1⟩
    have HB1 := Lib.hid (HB0.out.trans hb1)
    clear HB0 hb1
    go_wp2
    go_ret
    exact ⟨rfl, HB1.out⟩
  · go_enter Try.func7, Try.ntmps7
    go_wp2_with fail
    refine (ofixed_any _).mono ?_
    rintro e w1 ⟨rfl, hb1⟩
    have HB1 := Lib.hid (HB0.out.trans hb1)
    have HR1 := Lib.hid (HR0.out.up hb1)
    clear HB0 HR0 hb1
    go_wp2_with fail
    refine (great_any _ l _ HR1.out (by omega)).mono ?_
    rintro e w2 ⟨v2, rfl, hr2, hb2⟩
    have HG2 := Lib.hid hr2
    have HR2 := Lib.hid (HR1.out.up hb2)
    have HB2 := Lib.hid (below_next HB1.out (Nat.le_refl _) hb2)
    clear HR1 HB1 hr2 hb2
    go_wp2_with fail
    refine (refgreat_any _ l _ HR2.out (by omega)).mono ?_
    rintro e w3 ⟨v3, rfl, hr3, hb3⟩
    have HG3 := Lib.hid (HG2.out.up hb3)
    have HB3 := Lib.hid (below_next HB2.out (Nat.le_refl _) hb3)
    have HS3 := Lib.hid hr3
    have hgl := (great_places l).length
    clear HR2 HB2 hb3 hr3 HG2
    go_wp2_with fail
    refine (same_is _ _ (greatL l) (greatL l) _ HG3.out HS3.out (by omega) (by omega) (same_true rfl)).mono ?_
    rintro e w4 ⟨rfl, hb4⟩
    have HB4 := Lib.hid (below_next HB3.out (Nat.le_refl _) hb4)
    clear HB3 hb4
    go_wp2
    go_ret
    exact ⟨rfl, HB4.out⟩

end Wp
end Go.Proofs.Ytcdfjhmlpdhelaa
