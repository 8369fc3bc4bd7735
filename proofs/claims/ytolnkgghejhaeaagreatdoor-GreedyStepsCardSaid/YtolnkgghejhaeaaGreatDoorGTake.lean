/- The program's May, Take and Best, and the document's May, walked. -/
import Derived.Test.YtolnkgghejhaeaaGreatDoorGPure
import Derived.Test.YtolnkgghejhaeaaGreatDoorGGreat
import Derived.Test.YtolnkgghejhaeaaGreatDoorGKeep
import Derived.Test.YtolnkgghejhaeaaGreatDoorIUnion
import Derived.Test.YtolnkgghejhaeaaGreatDoorZF
namespace Go.Proofs.YtolnkgghejhaeaaGreatDoor
open Go.RowKit
namespace Wp

/-! ### Weights that may be -/
set_option maxRecDepth 100000 in
theorem outW_any (x : Int) (W : World) : Calls Tryz.prog 28 #[.int .i64 x] W fun e W' => e = .returned (.bool (outW x)) ∧ Below W.heap.size W W' := by
  unfold outW
  by_cases h1 : x < -1099511627776
  · rw [decide_eq_true h1, Bool.true_or]
    go_enter Tryz.func28, Tryz.ntmps28
    go_wp2
    go_ret
    exact ⟨rfl, Below.refl _ _⟩
  · have h1' : -1099511627776 ≤ x := by omega
    rw [decide_eq_false h1, Bool.false_or]
    clear h1
    go_enter Tryz.func28, Tryz.ntmps28
    go_wp2
    go_ret
    refine ⟨?_, Below.refl _ _⟩
    show Ending.returned (.bool (decide (x < -1099511627776) || decide (1099511627776 < x))) = _
    rw [decide_eq_false (show ¬ x < -1099511627776 by omega), Bool.false_or]
theorem outWtest (w : World) : Tests w 28 #[] outW := fun x W _ => outW_any x W

set_option maxHeartbeats 4000000 in
set_option maxRecDepth 100000 in
theorem gmay_any (E : Nat → Addr) (m : Mat) (v sv : Value) (s : List Int) (w : World) (hv : MatV w w.heap.size v m) (hs : Sml m) (hr : Row w w.heap.size sv s) (hsl : s.length ≤ 1048576) (hE : Env E w) : Calls Tryz.prog 17 #[v, sv] w (Says w (mayW m s)) := by
  have Hs := Lib.hid hs
  obtain ⟨lv, iv, hve, _, _⟩ := hv.open
  have Hb0 := Lib.hid (boxed_below w m lv iv)
  have HV := Lib.hid (hv.up Hb0.out)
  have HR := Lib.hid (hr.up Hb0.out)
  have HE := Lib.hid (hE.up Hb0.out)
  have Hblk := Lib.hid (boxed_blk w m lv iv)
  have HC : Hid (∀ W u, Row W W.heap.size u s → Calls Tryz.prog 30 #[u, .func (.func 28) #[] #[]] W (Says W (s.any outW))) :=
    Lib.hid fun W u hu => contains_any 28 #[] outW u s W (enters_of Tryz.func28 (by kernel_rfl) rfl) hu hsl (outWtest W)
  obtain ⟨As, cs, rfl, _⟩ := id hr
  subst hve
  unfold boxed at *
  obtain ⟨D, hD⟩ : ∃ D, chk m = D := ⟨_, rfl⟩
  have HD := Lib.hid hD
  unfold mayW
  rw [hD]
  generalize s.any outW = B at *
  have k0 := Hblk.out.cell 0
  have k1 := Hblk.out.cell 1
  have k2 := Hblk.out.cell 2
  have k3 := Hblk.out.cell 3
  have k4 := Hblk.out.cell 4
  have k5 := Hblk.out.cell 5
  clear hv hs hr hE hD
  by_cases h : D = 0
  · subst h
    rw [decide_eq_true rfl, Bool.true_and]
    by_cases hl : (s.length : Int) = m.n
    · rw [decide_eq_true hl, Bool.true_and]
      have hne : ((s.length : Int) == m.n) = true := by simp [hl]
      clear hl
      go_enter Tryz.func17, Tryz.ntmps17
      go_wp2_with fail
      refine (check_any E m _ _ HV.out Hs.out HE.out).mono ?_
      rintro e w1 ⟨rfl, hb1⟩
      rw [HD.out]
      have HB1 := Lib.hid (below_next Hb0.out (Nat.le_refl _) hb1)
      have HR1 := Lib.hid (HR.out.up hb1)
      have g1 := (Hblk.out.below hb1 Hblk.out.lt).cell 1
      clear hb1 k0 k1 k2 k3 k4 k5
      go_wp2_with fail
      refine (HC.out _ _ HR1.out).mono ?_
      rintro e w2 ⟨rfl, hb2⟩
      have HB2 := Lib.hid (below_next HB1.out (Nat.le_refl _) hb2)
      clear hb2 g1
      go_wp2
      go_ret
      exact ⟨rfl, HB2.out⟩
    · rw [decide_eq_false hl, Bool.false_and]
      have hne : ((s.length : Int) == m.n) = false := by simpa using hl
      clear hl
      go_enter Tryz.func17, Tryz.ntmps17
      go_wp2_with fail
      refine (check_any E m _ _ HV.out Hs.out HE.out).mono ?_
      rintro e w1 ⟨rfl, hb1⟩
      rw [HD.out]
      have HB1 := Lib.hid (below_next Hb0.out (Nat.le_refl _) hb1)
      have g1 := (Hblk.out.below hb1 Hblk.out.lt).cell 1
      clear hb1 k0 k1 k2 k3 k4 k5
      go_wp2
      go_ret
      exact ⟨rfl, HB1.out⟩
  · rw [decide_eq_false h, Bool.false_and]
    have hne : (D == 0) = false := by simpa using h
    clear h
    go_enter Tryz.func17, Tryz.ntmps17
    go_wp2_with fail
    refine (check_any E m _ _ HV.out Hs.out HE.out).mono ?_
    rintro e w1 ⟨rfl, hb1⟩
    rw [HD.out]
    have HB1 := Lib.hid (below_next Hb0.out (Nat.le_refl _) hb1)
    clear hb1 k0 k1 k2 k3 k4 k5
    go_wp2
    go_ret
    exact ⟨rfl, HB1.out⟩

/-! ### What is taken -/
/-- A function value tells whether one goes on: of a number, and of how many there are. -/
def Goes (w : World) (g : Nat) (lb : Array Value) (N : Nat) (on : Int → Nat → Bool) : Prop :=
  ∀ (x : Int) (n : Nat) (W : World), 0 ≤ x → x < (N : Int) → Below w.heap.size w W → Calls Tryz.prog g (#[.int .i64 x, .int .i64 (n : Int)] ++ lb) W fun e W' => e = .returned (.bool (on x n)) ∧ Below W.heap.size W W'
theorem Goes.up {w w' : World} {g : Nat} {lb : Array Value} {N : Nat} {on : Int → Nat → Bool} (h : Goes w g lb N on) (hb : Below w.heap.size w w') : Goes w' g lb N on := fun x n W h0 h1 hW => h x n W h0 h1 (hb.trans (hW.mono hb.size))

theorem takeK_yes {m : Mat} {on : Int → Nat → Bool} {s : List Int} {x : Int} {o : List Int} (h : on x s.length = true) (hi : indT m (unionL s [x]) = true) : takeK m on s (x :: o) = takeK m on (unionL s [x]) o := by rw [takeK, if_pos h, if_pos hi]
theorem takeK_no {m : Mat} {on : Int → Nat → Bool} {s : List Int} {x : Int} {o : List Int} (h : on x s.length = true) (hi : indT m (unionL s [x]) = false) : takeK m on s (x :: o) = takeK m on s o := by rw [takeK, if_pos h, if_neg (by rw [hi]; decide)]
theorem takeK_off {m : Mat} {on : Int → Nat → Bool} {s : List Int} {x : Int} {o : List Int} (h : on x s.length = false) : takeK m on s (x :: o) = s := by rw [takeK, if_neg (by rw [h]; decide)]
theorem drop_at {o : List Int} {k : Nat} (h : k < o.length) : o.drop k = o.getD k 0 :: o.drop (k + 1) := by
  rw [List.drop_eq_getElem_cons h]
  simp [List.getD, h]

set_option maxHeartbeats 8000000 in
set_option maxRecDepth 100000 in
theorem take_any (E : Nat → Addr) (g : Nat) (lb : Array Value) (on : Int → Nat → Bool) (m : Mat) (v sv : Value) (s : List Int) (w : World) (eg : ∀ args w, (callFunc g args).run Tryz.prog w = .ok (.enter g args) w) (hv : MatV w w.heap.size v m) (hs : Sml m) (hr : Row w w.heap.size sv s) (hsl : s.length ≤ 1048576) (hE : Env E w) (hg : Goes w g lb s.length on) :
    Calls Tryz.prog 21 #[v, sv, .func (.func g) #[] lb] w (Gives w (takeT m s on)) := by
  have Hs := Lib.hid hs
  obtain ⟨lv, iv, hve, hl2, hi2⟩ := hv.open
  have Hb0 := Lib.hid (boxed_below w m lv iv)
  have HV := Lib.hid (hv.up Hb0.out)
  have HR := Lib.hid (hr.up Hb0.out)
  have HE := Lib.hid (hE.up Hb0.out)
  have HG := Lib.hid (hg.up Hb0.out)
  have Hblk := Lib.hid (boxed_blk w m lv iv)
  obtain ⟨As, cs, rfl, _⟩ := id hr
  obtain ⟨Al, cl, rfl, _⟩ := hl2
  obtain ⟨Ai, ci, rfl, _⟩ := hi2
  have k0 := Hblk.out.cell 0
  have k1 := Hblk.out.cell 1
  have k2 := Hblk.out.cell 2
  have k3 := Hblk.out.cell 3
  have k4 := Hblk.out.cell 4
  have k5 := Hblk.out.cell 5
  subst hve
  unfold boxed at *
  rcases hm : mayW m s with _ | _
  · have Hm := Lib.hid hm
    rw [show takeT m s on = [] from by unfold takeT; rw [hm]; rfl]
    clear hv hs hr hE hm hg
    go_enter Tryz.func21, Tryz.ntmps21
    go_wp2_with fail
    refine (gmay_any E m _ _ s _ HV.out Hs.out HR.out hsl HE.out).mono ?_
    rintro e w1 ⟨rfl, hb1⟩
    rw [Hm.out]
    have Hb1 := Lib.hid (below_next Hb0.out (Nat.le_refl _) hb1)
    clear hb1 k0 k1 k2 k3 k4 k5
    go_wp2
    go_ret
    exact ⟨_, rfl, Row.nil_ _ _, Hb1.out⟩
  · have Hm := Lib.hid hm
    obtain ⟨T, hT⟩ : ∃ T, takeT m s on = T := ⟨_, rfl⟩
    rw [hT]
    have HT : Hid (takeK m on [] (greatL s) = T) := Lib.hid (by rw [← hT]; unfold takeT; rw [hm]; rfl)
    obtain ⟨hc, hwl, _⟩ := mayW_iff.1 hm
    have hn64 := (nN_cast hc).2
    have hele : ∀ x ∈ greatL s, 0 ≤ x ∧ x < (s.length : Int) := fun x hx => ((great_places s).mem x).1 hx
    have holen : (greatL s).length = s.length := (great_places s).length
    have Hgr : Hid (∀ W u, Row W W.heap.size u s → Calls Tryz.prog 33 #[u] W (Gives W (greatL s))) := Lib.hid fun W u hu => great_any u s W hu hsl
    generalize greatL s = o at *
    have Hele := Lib.hid hele
    have holI : (o.length : Int) ≤ 64 := by omega
    have HN := Lib.hid hn64
    have Hwl := Lib.hid hwl
    clear hv hs hr hE hm hg hc hT hwl hele holen hn64
    go_enter Tryz.func21, Tryz.ntmps21
    go_wp2_with fail
    refine (gmay_any E m _ _ s _ HV.out Hs.out HR.out hsl HE.out).mono ?_
    rintro e w1 ⟨rfl, hb1⟩
    rw [Hm.out]
    replace HV := Lib.hid (HV.out.up hb1)
    replace HR := Lib.hid (HR.out.up hb1)
    replace HE := Lib.hid (HE.out.up hb1)
    replace HG := Lib.hid (HG.out.up hb1)
    replace Hblk := Lib.hid (Hblk.out.below hb1 Hblk.out.lt)
    replace Hb0 := Lib.hid (below_next Hb0.out (Nat.le_refl _) hb1)
    clear hb1 k0 k1 k2 k3 k4 k5
    go_wp2_with fail
    refine (Hgr.out _ _ HR.out).mono ?_
    rintro e w2 ⟨vo, rfl, hro, hb2⟩
    replace HV := Lib.hid (HV.out.up hb2)
    replace HE := Lib.hid (HE.out.up hb2)
    replace HG := Lib.hid (HG.out.up hb2)
    replace Hblk := Lib.hid (Hblk.out.below hb2 Hblk.out.lt)
    replace Hb0 := Lib.hid (below_next Hb0.out (Nat.le_refl _) hb2)
    obtain ⟨Ao, co, rfl, _⟩ := id hro
    have HO := Lib.hid hro
    clear hb2 hro HR Hgr
    go_wp2
    go_loopw [7, 18] (fun v7 vk wr => ∃ (k : Nat) (b : List Int), vk = .int .i64 k ∧ k ≤ o.length ∧ Row wr wr.heap.size v7 b ∧ InN (nN m) b ∧ takeK m on b (o.drop k) = T ∧ Below w2.heap.size w2 wr) (fun _ vk _ => o.length - (intOf vk).toNat)
    case atStart => exact ⟨0, [], rfl, Nat.zero_le _, Row.nil_ _ _, inN_nil _, HT.out, Below.refl _ _⟩
    case round =>
      obtain ⟨k, b, rfl, hk, hrow, hin, htk, hbr⟩ := hrel
      have Hrow := Lib.hid hrow
      have Hbr := Lib.hid hbr
      have Hin := Lib.hid hin
      by_cases hlt : k < o.length
      · have hltI : (k : Int) < (o.length : Int) := by omega
        obtain ⟨ad, hA, hcl⟩ := Row.nth HO.out hlt
        subst hA
        have g1 := hcl wr Hbr.out
        have hx2 := Hele.out (o.getD k 0) (getD_of 0 hlt)
        rw [drop_at hlt] at htk
        generalize o.getD k 0 = x at *
        have Hx2 := Lib.hid hx2
        have Htk := Lib.hid htk
        have Hl : Hid (b.length ≤ 64) := Lib.hid (by have := inN_len hin; have := HN.out; omega)
        have H1 : Hid (InN (nN m) [x]) := Lib.hid (inN_one HN.out hx2.1 (by have := Hwl.out; omega))
        obtain ⟨Ab, cb, rfl, _⟩ := id hrow
        obtain ⟨L, hL⟩ : ∃ L, b.length = L := ⟨_, rfl⟩
        have HL := Lib.hid hL
        have Hcall := Lib.hid (HG.out x b.length wr hx2.1 hx2.2 Hbr.out)
        rcases hq : on x b.length with _ | _
        · rw [hq] at Hcall
          have e3 := Lib.hid (takeK_off (m := m) (o := o.drop (k + 1)) hq ▸ Htk.out)
          clear hcl hx2 htk hrow hbr hin hq hL
          go_wp2_with fail
          refine (Hcall.out).mono ?_
          rintro e w3 ⟨rfl, hb3⟩
          have Hr3 := Lib.hid (Hrow.out.up hb3)
          have HB3 := Lib.hid (below_next Hbr.out (Nat.le_refl _) hb3)
          clear hb3
          go_wp2
          go_ret
          exact ⟨_, rfl, by rw [← e3.out]; exact Hr3.out, below_next Hb0.out (Nat.le_refl _) HB3.out⟩
        · rw [hq] at Hcall
          have Hq := Lib.hid hq
          clear hcl hx2 htk hrow hbr hin hq hL
          go_wp2_with fail
          refine (Hcall.out).mono ?_
          rintro e w3 ⟨rfl, hb3⟩
          have Hr3 := Lib.hid (Hrow.out.up hb3)
          have HB3 := Lib.hid (below_next Hbr.out (Nat.le_refl _) hb3)
          clear hb3 g1 Hrow Hbr
          go_wp2_with fail
          refine (union_any _ _ b [x] _ (Hr3.out.upA _) (Row.here (Row.lit1 _ x)) (by have := Hl.out; omega) (by simp)).mono ?_
          rintro e w4 ⟨v4, rfl, hr4, hb4⟩
          have hb4' := below_next ((Below.refl _ w3).alloc (Nat.le_refl _) _) (Nat.le_refl _) hb4
          have Hr4 := Lib.hid hr4
          have HB4 := Lib.hid (below_next HB3.out (Nat.le_refl _) hb4')
          have Hr34 := Lib.hid (Hr3.out.up hb4')
          have K := Hblk.out.below HB4.out Hblk.out.lt
          have k0 := K.cell 0
          have k1 := K.cell 1
          have k2 := K.cell 2
          have k3 := K.cell 3
          have k4 := K.cell 4
          have k5 := K.cell 5
          have Hul : Hid ((unionL b [x]).length ≤ 1048576) := Lib.hid (by have h9 := union_length b [x]; have := Hl.out; simp only [List.length_cons, List.length_nil] at h9; omega)
          have Hui := Lib.hid (inN_union Hin.out H1.out)
          obtain ⟨z, hz⟩ : ∃ z, indT m (unionL b [x]) = z := ⟨_, rfl⟩
          have Hz := Lib.hid hz
          clear K hr4 hb4 hb4' hz
          go_wp2_with fail
          refine (indep_any E m _ v4 _ _ (HV.out.up HB4.out) Hs.out Hr4.out Hul.out (HE.out.up HB4.out)).mono ?_
          rintro e w5 ⟨rfl, hb5⟩
          rw [Hz.out]
          have Hr5 := Lib.hid (Hr4.out.up hb5)
          have HB5 := Lib.hid (below_next HB4.out (Nat.le_refl _) hb5)
          have Hr35 := Lib.hid (Hr34.out.up hb5)
          clear hb5 k0 k1 k2 k3 k4 k5
          cases z
          · have e3 := Lib.hid ((takeK_no Hq.out Hz.out).symm.trans Htk.out)
            go_wp2
            go_roundw
            case rel => exact ⟨k + 1, b, by go_num, by omega, Hr35.out, Hin.out, e3.out, HB5.out⟩
            case measure => simp [intOf]; omega
          · have e3 := Lib.hid ((takeK_yes Hq.out Hz.out).symm.trans Htk.out)
            go_wp2
            go_roundw
            case rel => exact ⟨k + 1, _, by go_num, by omega, Hr5.out, Hui.out, e3.out, HB5.out⟩
            case measure => simp [intOf]; omega
      · have hke : k = o.length := by omega
        subst hke
        rw [List.drop_length, takeK] at htk
        subst htk
        go_wp2
        go_ret
        exact ⟨_, rfl, Hrow.out, below_next Hb0.out (Nat.le_refl _) Hbr.out⟩

end Wp
end Go.Proofs.YtolnkgghejhaeaaGreatDoor
