/- The document's Image, walked. -/
import Derived.Test.YtgadbnbhgpehjaaGreatDoorZT
import Derived.Test.YtgadbnbhgpehjaaGreatDoorQImg
set_option maxHeartbeats 8000000
set_option maxRecDepth 100000
open Go.Lib (hid)
open Nat (le_refl)
namespace Go.Proofs.YtgadbnbhgpehjaaGreatDoor
open Go.RowKit
namespace Wp
theorem Yi2 (m : Mat) (v sv : Value) (s : List Int) (w : World) (hv : MatV w w.heap.size v m) (hs : Sml m) (hr : Row w w.heap.size sv s) (_hsl : s.length ≤ 1048576) (hc : chk m ≠ 0) : Calls Tryz.prog 65 #[v, sv] w (Q3_ w false []) := by
 have Hs := hid hs
 obtain ⟨lv, iv, hve, hl2, hi2⟩ := hv.open
 have Hb0 := hid (Z1_ w m lv iv)
 have Hv0 := hid (hv.up Hb0.out)
 have Hr0 := hid (hr.up Hb0.out)
 have Hblk0 := hid (Z3_ w m lv iv)
 have g0 := Hblk0.out.cell 0
 have g1 := Hblk0.out.cell 1
 have g2 := Hblk0.out.cell 2
 have g3 := Hblk0.out.cell 3
 have g4 := Hblk0.out.cell 4
 have g5 := Hblk0.out.cell 5
 subst hve
 unfold boxed at *
 obtain ⟨D, hD⟩ : ∃ D, chk m = D := ⟨_, rfl⟩
 have HD := hid hD
 rw [hD] at hc
 have hne : (D != 0) = true := by simpa using hc
 clear hD hc hv hs hr hl2 hi2
 go_enter Tryz.func65, Tryz.ntmps65
 go_wp2_with fail
 refine (A5_ m _ _ Hv0.out Hs.out).mono ?_
 rintro e w1 ⟨rfl, hb1⟩
 rw [HD.out]
 have Hb1 := hid (Z0_ Hb0.out (le_refl _) hb1)
 have Hr1 := hid (Hr0.out.up hb1)
 have Hblk1 := hid (Hblk0.out.below hb1 Hblk0.out.lt)
 clear hb1 g0 g1 g2 g3 g4 g5
 go_wp2
 go_ret2
 exact B2_ w _ Hb1.out
theorem Yi3 (m : Mat) (v sv : Value) (s : List Int) (w : World) (hv : MatV w w.heap.size v m) (hs : Sml m) (hr : Row w w.heap.size sv s) (_hsl : s.length ≤ 1048576) (hc : chk m = 0) (h5 : ¬ m.t = 5) (h6 : ¬ m.t = 6) : Calls Tryz.prog 65 #[v, sv] w (Q3_ w false []) := by
 have Hs := hid hs
 obtain ⟨lv, iv, hve, hl2, hi2⟩ := hv.open
 have Hb0 := hid (Z1_ w m lv iv)
 have Hv0 := hid (hv.up Hb0.out)
 have Hr0 := hid (hr.up Hb0.out)
 have Hblk0 := hid (Z3_ w m lv iv)
 have g0 := Hblk0.out.cell 0
 have g1 := Hblk0.out.cell 1
 have g2 := Hblk0.out.cell 2
 have g3 := Hblk0.out.cell 3
 have g4 := Hblk0.out.cell 4
 have g5 := Hblk0.out.cell 5
 subst hve
 unfold boxed at *
 have HD := hid hc
 have e5 : (m.t != 5) = true := by simpa using h5
 have e6 : (m.t != 6) = true := by simpa using h6
 clear hc hv hs hr hl2 hi2 h5 h6
 go_enter Tryz.func65, Tryz.ntmps65
 go_wp2_with fail
 refine (A5_ m _ _ Hv0.out Hs.out).mono ?_
 rintro e w1 ⟨rfl, hb1⟩
 rw [HD.out]
 have Hb1 := hid (Z0_ Hb0.out (le_refl _) hb1)
 have Hr1 := hid (Hr0.out.up hb1)
 have Hblk1 := hid (Hblk0.out.below hb1 Hblk0.out.lt)
 clear hb1 g0 g1 g2 g3 g4 g5
 have d0 := Hblk1.out.cell 0
 go_wp2
 go_ret2
 exact B2_ w _ Hb1.out
theorem Zw9 (m : Mat) (v sv : Value) (s : List Int) (w : World) (hv : MatV w w.heap.size v m) (hs : Sml m) (hr : Row w w.heap.size sv s) (_hsl : s.length ≤ 1048576) (hc : chk m = 0) (ht : m.t = 5) (hok : okA m.n s = false) : Calls Tryz.prog 65 #[v, sv] w (Q3_ w false []) := by
 have Hs := hid hs
 obtain ⟨lv, iv, hve, hl2, hi2⟩ := hv.open
 have Hb0 := hid (Z1_ w m lv iv)
 have Hv0 := hid (hv.up Hb0.out)
 have Hr0 := hid (hr.up Hb0.out)
 have Hblk0 := hid (Z3_ w m lv iv)
 have g0 := Hblk0.out.cell 0
 have g1 := Hblk0.out.cell 1
 have g2 := Hblk0.out.cell 2
 have g3 := Hblk0.out.cell 3
 have g4 := Hblk0.out.cell 4
 have g5 := Hblk0.out.cell 5
 subst hve
 unfold boxed at *
 have HD := hid hc
 have Hok := hid hok
 have e5 : (m.t != 5) = false := by simpa using ht
 clear hc hv hs hl2 hi2 hok ht
 go_enter Tryz.func65, Tryz.ntmps65
 go_wp2_with fail
 refine (A5_ m _ _ Hv0.out Hs.out).mono ?_
 rintro e w1 ⟨rfl, hb1⟩
 rw [HD.out]
 have Hb1 := hid (Z0_ Hb0.out (le_refl _) hb1)
 have Hr1 := hid (Hr0.out.up hb1)
 have Hblk1 := hid (Hblk0.out.below hb1 Hblk0.out.lt)
 clear hb1 g0 g1 g2 g3 g4 g5
 have d0 := Hblk1.out.cell 0
 have d1 := Hblk1.out.cell 1
 obtain ⟨As, cs, rfl, _⟩ := id hr
 go_wp2_with fail
 refine (F4_ _ s m.n _ Hr1.out).mono ?_
 rintro e w2 ⟨rfl, hb2⟩
 rw [Hok.out]
 have Hb2 := hid (Z0_ Hb1.out (le_refl _) hb2)
 have Hr2 := hid (Hr1.out.up hb2)
 have Hblk2 := hid (Hblk1.out.below hb2 Hblk1.out.lt)
 clear hb2 d0 d1
 clear hr
 go_wp2
 go_ret2
 exact B2_ w _ Hb2.out
theorem Yz0 (m : Mat) (v sv : Value) (s : List Int) (w : World) (hv : MatV w w.heap.size v m) (hs : Sml m) (hr : Row w w.heap.size sv s) (hsl : s.length ≤ 1048576) (hc : chk m = 0) (ht : m.t = 5) (hok : okA m.n s = true) : Calls Tryz.prog 65 #[v, sv] w (Q3_ w true (imgM m s)) := by
 have Hs := hid hs
 obtain ⟨lv, iv, hve, hl2, hi2⟩ := hv.open
 have Hb0 := hid (Z1_ w m lv iv)
 have Hv0 := hid (hv.up Hb0.out)
 have Hr0 := hid (hr.up Hb0.out)
 have Hblk0 := hid (Z3_ w m lv iv)
 have g0 := Hblk0.out.cell 0
 have g1 := Hblk0.out.cell 1
 have g2 := Hblk0.out.cell 2
 have g3 := Hblk0.out.cell 3
 have g4 := Hblk0.out.cell 4
 have g5 := Hblk0.out.cell 5
 subst hve
 unfold boxed at *
 have hfl := B9_ hc (by omega)
 have hstay := P0_ hc (by omega)
 have hin := Yj5 hc (by rw [← S2_ (chk_n hc).1 (chk_n hc).2]; exact hok)
 have hfn := S0_ m s
 have hfa := Yj6 m s
 obtain ⟨Al, cl, rfl, _, hlk⟩ := hl2
 obtain ⟨Ai, ci, rfl, _, hik⟩ := hi2
 obtain ⟨ad, u0, hA, hab, hc0, hr0⟩ := hlk 0 (by omega)
 subst hA
 rw [add_zero] at hc0
 have hlI : (0 : Int) < (m.l.length : Int) := by omega
 have hl0 : 0 < m.l.length := by omega
 have hsI : (s.length : Int) ≤ 1048576 := by omega
 obtain ⟨F, hF⟩ : ∃ F, F = imgM m s := ⟨_, rfl⟩
 rw [← hF] at hfn hfa
 rw [← hF]
 have hst : stayL m = m.l.getD 0 [] := by
  unfold stayL
  rw [if_neg (by omega)]
  rfl
 obtain ⟨ST, hST⟩ : ∃ ST, ST = stayL m := ⟨_, rfl⟩
 rw [← hST] at hfa hstay hst
 generalize m.l.getD 0 [] = r at *
 have Hst := hid hst
 have Hin := hid hin
 have Hfa := hid hfa
 have Hfn := hid hfn
 have Hab := hid hab
 have Hru := hid hr0
 have Hc0 := hid hc0
 have Hstl := hid hstay
 have HD := hid hc
 have Hok := hid hok
 have f6 : (m.t == 6) = false := by simp; omega
 have hstI : (ST.length : Int) ≤ 64 := by have := (chk_n hc).2; omega
 have e5 : (m.t != 5) = false := by simpa using ht
 clear hv hs hok ht hc hst hin hfa hfn hfl hab hr0 hc0 hstay hlk hik hF hST
 go_enter Tryz.func65, Tryz.ntmps65
 go_wp2_with fail
 refine (A5_ m _ _ Hv0.out Hs.out).mono ?_
 rintro e w1 ⟨rfl, hb1⟩
 rw [HD.out]
 have Hb1 := hid (Z0_ Hb0.out (le_refl _) hb1)
 have Hr1 := hid (Hr0.out.up hb1)
 have Hblk1 := hid (Hblk0.out.below hb1 Hblk0.out.lt)
 clear hb1 g0 g1 g2 g3 g4 g5
 have d0 := Hblk1.out.cell 0
 have d1 := Hblk1.out.cell 1
 obtain ⟨As, cs, rfl, _⟩ := id hr
 go_wp2_with fail
 refine (F4_ _ s m.n _ Hr1.out).mono ?_
 rintro e w2 ⟨rfl, hb2⟩
 rw [Hok.out]
 have Hb2 := hid (Z0_ Hb1.out (le_refl _) hb2)
 have Hr2 := hid (Hr1.out.up hb2)
 have Hblk2 := hid (Hblk1.out.below hb2 Hblk1.out.lt)
 clear hb2 d0 d1
 clear hr
 have d0 := Hblk2.out.cell 0
 have d4 := Hblk2.out.cell 4
 have d5 := Hblk2.out.cell 5
 have cr := (Hb2.out.cell (p := ad) Hab.out).trans Hc0.out
 have Hru2 := hid ((Hru.out.below Hb2.out).mono Hb2.out.size)
 have Hb4 := Hb2
 have Hr4 := Hr2
 have Hstr : Hid (Row w2 w2.heap.size u0 ST) := hid (by rw [Hst.out]; exact Hru2.out)
 obtain ⟨As4, cs4, hse, _, hsk⟩ := id Hr4.out
 injection hse with he1 he2 he3
 subst he1 he3
 obtain ⟨Ast, cst, rfl, _, hstk⟩ := id Hstr.out
 have Hstk := hid hstk
 have Hsk := hid hsk
 have hown0 : (w2.alloc (.cells #[] 3)).ownsRow w2.heap.size 3 1 (.slice (some ⟨w2.heap.size, 0, none⟩) 0 0) 0 [] :=
  World.ownsRow_made w2 #[] 0 (le_refl _) (by unfold maxLen; omega) rfl
 have hB0 : Below w2.heap.size w2 (w2.alloc (.cells #[] 3)) := (Below.refl _ w2).alloc (le_refl _) _
 clear hstk hsk he2
 go_wp2
 clear d0 d4 d5 cr
 go_loopw [7, 8] (fun vl vk wr => ∃ k : Nat, vk = .int .i64 k ∧ k ≤ s.length ∧ wr.ownsRow w2.heap.size 3 1 vl (F.take k).length (ints (F.take k)) ∧ Below w2.heap.size w2 wr) (fun _ vk _ => s.length - (intOf vk).toNat)
 case atStart => exact ⟨0, rfl, Nat.zero_le _, hown0, hB0⟩
 case round =>
  obtain ⟨k, rfl, hk, hown, hbr⟩ := hrel
  clear hown0 hB0
  by_cases hlt : k < s.length
  ·have hltI : (k : Int) < (s.length : Int) := by omega
   have hx0 := (Hin.out k hlt).1
   have hx1 := (Hin.out k hlt).2
   have hfa := Hfa.out k hlt
   obtain ⟨X, hX⟩ : ∃ X : Nat, s.getD k 0 = (X : Int) := ⟨(s.getD k 0).toNat, by omega⟩
   rw [hX] at hx0 hx1 hfa
   have hXl : X < ST.length := by have := Hstl.out; omega
   have hXI : (X : Int) < (ST.length : Int) := by omega
   rw [show ((X : Int)).toNat = X from rfl] at hfa
   obtain ⟨as_, hA, hasb, hcs⟩ := Hsk.out k hlt
   subst hA
   obtain ⟨at_, hA, hatb, hct⟩ := Hstk.out X hXl
   subst hA
   rw [hX] at hcs
   have gs := (hbr.cell (p := as_.add k) (by rw [Z2_]; exact hasb)).trans hcs
   have gt := (hbr.cell (p := at_.add X) (by rw [Z2_]; exact hatb)).trans hct
   have hFl := Hfn.out
   have Htk : Hid (F.take (k + 1) = F.take k ++ [ST.getD X 0]) := hid (by rw [List.take_succ_eq_append_getElem (by omega), ← hfa]; simp [List.getD, show k < F.length by omega])
   have hFk : (F.take k).length = k := by rw [List.length_take]; omega
   generalize ST.getD X 0 = y at *
   have Hlen : Hid ((F.take k ++ [y]).length = k + 1) := hid (by rw [List.length_append, hFk]; rfl)
   clear hcs hct hX hx0 hx1 hfa
   go_wp2_with (at_builtin; refine Z4_ rfl _ _ rfl w2.heap.size _ _ _ (F.take k) [y] rfl rfl (hown.alloc _) (Row.lit1 _ y) (by omega) (by simp) (by have := hbr.size; simp; omega) ?_)
   intro v' w6 hown' hgrow
   have hb6 : Below w2.heap.size wr w6 := ((Below.refl _ wr).alloc hbr.size _).grown hgrow (by have := hbr.size; simp; omega) (fun i hi => (hown.lt i hi).1)
   go_wp2
   go_roundw
   case rel => exact ⟨k + 1, by go_num, by omega, by rw [Htk.out, Hlen.out]; exact hown', hbr.trans hb6⟩
   case measure => simp [intOf]; omega
  ·have hke : k = s.length := by omega
   subst hke
   have Hff : Hid (F.take s.length = F) := hid (List.take_of_length_le (by have := Hfn.out; omega))
   rw [Hff.out] at hown
   go_wp2
   go_ret2
   exact ⟨_, rfl, Row.of_own hown rfl, Z0_ Hb4.out (le_refl _) hbr, Zn4 hown Hb4.out.size⟩
theorem Yz1 (m : Mat) (v sv : Value) (s : List Int) (w : World) (hv : MatV w w.heap.size v m) (hs : Sml m) (hr : Row w w.heap.size sv s) (_hsl : s.length ≤ 1048576) (hc : chk m = 0) (ht : m.t = 6) (hok : okA m.n s = false) : Calls Tryz.prog 65 #[v, sv] w (Q3_ w false []) := by
 have Hs := hid hs
 obtain ⟨lv, iv, hve, hl2, hi2⟩ := hv.open
 have Hb0 := hid (Z1_ w m lv iv)
 have Hv0 := hid (hv.up Hb0.out)
 have Hr0 := hid (hr.up Hb0.out)
 have Hblk0 := hid (Z3_ w m lv iv)
 have g0 := Hblk0.out.cell 0
 have g1 := Hblk0.out.cell 1
 have g2 := Hblk0.out.cell 2
 have g3 := Hblk0.out.cell 3
 have g4 := Hblk0.out.cell 4
 have g5 := Hblk0.out.cell 5
 subst hve
 unfold boxed at *
 have HD := hid hc
 have Hok := hid hok
 have e5 : (m.t != 5) = true := by simp; omega
 have e6 : (m.t != 6) = false := by simpa using ht
 clear hc hv hs hl2 hi2 hok ht
 go_enter Tryz.func65, Tryz.ntmps65
 go_wp2_with fail
 refine (A5_ m _ _ Hv0.out Hs.out).mono ?_
 rintro e w1 ⟨rfl, hb1⟩
 rw [HD.out]
 have Hb1 := hid (Z0_ Hb0.out (le_refl _) hb1)
 have Hr1 := hid (Hr0.out.up hb1)
 have Hblk1 := hid (Hblk0.out.below hb1 Hblk0.out.lt)
 clear hb1 g0 g1 g2 g3 g4 g5
 have d0 := Hblk1.out.cell 0
 have d1 := Hblk1.out.cell 1
 obtain ⟨As, cs, rfl, _⟩ := id hr
 go_wp2_with fail
 refine (F4_ _ s m.n _ Hr1.out).mono ?_
 rintro e w2 ⟨rfl, hb2⟩
 rw [Hok.out]
 have Hb2 := hid (Z0_ Hb1.out (le_refl _) hb2)
 have Hr2 := hid (Hr1.out.up hb2)
 have Hblk2 := hid (Hblk1.out.below hb2 Hblk1.out.lt)
 clear hb2 d0 d1
 clear hr
 go_wp2
 go_ret2
 exact B2_ w _ Hb2.out
theorem Yz2 (m : Mat) (v sv : Value) (s : List Int) (w : World) (hv : MatV w w.heap.size v m) (hs : Sml m) (hr : Row w w.heap.size sv s) (hsl : s.length ≤ 1048576) (hc : chk m = 0) (ht : m.t = 6) (hok : okA m.n s = true) : Calls Tryz.prog 65 #[v, sv] w (Q3_ w true (imgM m s)) := by
 have Hs := hid hs
 obtain ⟨lv, iv, hve, hl2, hi2⟩ := hv.open
 have Hb0 := hid (Z1_ w m lv iv)
 have Hv0 := hid (hv.up Hb0.out)
 have Hr0 := hid (hr.up Hb0.out)
 have Hblk0 := hid (Z3_ w m lv iv)
 have g0 := Hblk0.out.cell 0
 have g1 := Hblk0.out.cell 1
 have g2 := Hblk0.out.cell 2
 have g3 := Hblk0.out.cell 3
 have g4 := Hblk0.out.cell 4
 have g5 := Hblk0.out.cell 5
 subst hve
 unfold boxed at *
 have hfl := B9_ hc (by omega)
 have hstay := P0_ hc (by omega)
 have hin := Yj5 hc (by rw [← S2_ (chk_n hc).1 (chk_n hc).2]; exact hok)
 have hfn := S0_ m s
 have hfa := Yj6 m s
 obtain ⟨Al, cl, rfl, _, hlk⟩ := hl2
 obtain ⟨Ai, ci, rfl, _, hik⟩ := hi2
 obtain ⟨ad, u0, hA, hab, hc0, hr0⟩ := hlk 0 (by omega)
 subst hA
 rw [add_zero] at hc0
 have hlI : (0 : Int) < (m.l.length : Int) := by omega
 have hl0 : 0 < m.l.length := by omega
 have hsI : (s.length : Int) ≤ 1048576 := by omega
 obtain ⟨F, hF⟩ : ∃ F, F = imgM m s := ⟨_, rfl⟩
 rw [← hF] at hfn hfa
 rw [← hF]
 have hst : stayL m = Z7_ (allL (m.i.getD 0 default).n) (m.l.getD 0 []) := by
  unfold stayL
  rw [if_pos ht]
  rfl
 obtain ⟨ai, ui, hA, hab2, hsix, hmv⟩ := hik 0 (by omega)
 subst hA
 rw [show (0 : Nat) * 6 = 0 from rfl, add_zero] at hsix
 obtain ⟨lv2, iv2, hui, _, _⟩ := hmv.open
 obtain ⟨x0, x1, x2, x3, x4, x5, hui2, s0, s1, _⟩ := hsix
 rw [hui] at hui2
 injection hui2 with hui2
 injection hui2 with hui2
 injection hui2 with _ hui2
 injection hui2 with hx1 _
 subst hx1
 have hiI : (0 : Int) < (m.i.length : Int) := by omega
 have hi0 : 0 < m.i.length := by omega
 have hal := D2_ (m.i.getD 0 default).n
 have hrow := sml_r Hs.out (Y1_ m.l 0 [] (by omega))
 generalize m.i.getD 0 default = x at *
 have Hs1 := hid s1
 have Hab2 := hid hab2
 obtain ⟨ST, hST⟩ : ∃ ST, ST = stayL m := ⟨_, rfl⟩
 rw [← hST] at hfa hstay hst
 generalize m.l.getD 0 [] = r at *
 have Hst := hid hst
 have Hin := hid hin
 have Hfa := hid hfa
 have Hfn := hid hfn
 have Hab := hid hab
 have Hru := hid hr0
 have Hc0 := hid hc0
 have Hstl := hid hstay
 have HD := hid hc
 have Hok := hid hok
 have f6 : (m.t == 6) = true := by simp; omega
 have hstI : (ST.length : Int) ≤ 64 := by have := (chk_n hc).2; omega
 have e5 : (m.t != 5) = true := by simp; omega
 have e6 : (m.t != 6) = false := by simpa using ht
 clear hv hs hok ht hc hst hin hfa hfn hfl hab hr0 hc0 hstay hlk hik hF hST s0 s1 hmv hui hab2
 go_enter Tryz.func65, Tryz.ntmps65
 go_wp2_with fail
 refine (A5_ m _ _ Hv0.out Hs.out).mono ?_
 rintro e w1 ⟨rfl, hb1⟩
 rw [HD.out]
 have Hb1 := hid (Z0_ Hb0.out (le_refl _) hb1)
 have Hr1 := hid (Hr0.out.up hb1)
 have Hblk1 := hid (Hblk0.out.below hb1 Hblk0.out.lt)
 clear hb1 g0 g1 g2 g3 g4 g5
 have d0 := Hblk1.out.cell 0
 have d1 := Hblk1.out.cell 1
 obtain ⟨As, cs, rfl, _⟩ := id hr
 go_wp2_with fail
 refine (F4_ _ s m.n _ Hr1.out).mono ?_
 rintro e w2 ⟨rfl, hb2⟩
 rw [Hok.out]
 have Hb2 := hid (Z0_ Hb1.out (le_refl _) hb2)
 have Hr2 := hid (Hr1.out.up hb2)
 have Hblk2 := hid (Hblk1.out.below hb2 Hblk1.out.lt)
 clear hb2 d0 d1
 clear hr
 have d0 := Hblk2.out.cell 0
 have d4 := Hblk2.out.cell 4
 have d5 := Hblk2.out.cell 5
 have cr := (Hb2.out.cell (p := ad) Hab.out).trans Hc0.out
 have Hru2 := hid ((Hru.out.below Hb2.out).mono Hb2.out.size)
 have cn := (Hb2.out.cell (p := ⟨ai.block, ai.off + 1, none⟩) Hab2.out).trans Hs1.out
 go_wp2_with fail
 refine (L4_ x.n _).mono ?_
 rintro e w3 ⟨va, rfl, hra, hb3⟩
 have Hb3 := hid (Z0_ Hb2.out (le_refl _) hb3)
 have Hr3 := hid (Hr2.out.up hb3)
 have Hru3 := hid (Hru2.out.up hb3)
 have Hra := hid hra
 clear hb3 hra d0 d4 d5 cr cn
 go_wp2_with fail
 refine (K7_ _ _ (allL x.n) r _ Hra.out Hru3.out hal (by omega)).mono ?_
 rintro e w4 ⟨vl, rfl, hrl, hb4⟩
 have Hb4 := hid (Z0_ Hb3.out (le_refl _) hb4)
 have Hr4 := hid (Hr3.out.up hb4)
 have Hstr : Hid (Row w4 w4.heap.size vl ST) := hid (by rw [Hst.out]; exact hrl)
 clear hb4 hrl
 obtain ⟨As4, cs4, hse, _, hsk⟩ := id Hr4.out
 injection hse with he1 he2 he3
 subst he1 he3
 obtain ⟨Ast, cst, rfl, _, hstk⟩ := id Hstr.out
 have Hstk := hid hstk
 have Hsk := hid hsk
 have hown0 : (w4.alloc (.cells #[] 3)).ownsRow w4.heap.size 3 1 (.slice (some ⟨w4.heap.size, 0, none⟩) 0 0) 0 [] :=
  World.ownsRow_made w4 #[] 0 (le_refl _) (by unfold maxLen; omega) rfl
 have hB0 : Below w4.heap.size w4 (w4.alloc (.cells #[] 3)) := (Below.refl _ w4).alloc (le_refl _) _
 clear hstk hsk he2
 go_wp2
 go_loopw [7, 8] (fun vl vk wr => ∃ k : Nat, vk = .int .i64 k ∧ k ≤ s.length ∧ wr.ownsRow w4.heap.size 3 1 vl (F.take k).length (ints (F.take k)) ∧ Below w4.heap.size w4 wr) (fun _ vk _ => s.length - (intOf vk).toNat)
 case atStart => exact ⟨0, rfl, Nat.zero_le _, hown0, hB0⟩
 case round =>
  obtain ⟨k, rfl, hk, hown, hbr⟩ := hrel
  clear hown0 hB0
  by_cases hlt : k < s.length
  ·have hltI : (k : Int) < (s.length : Int) := by omega
   have hx0 := (Hin.out k hlt).1
   have hx1 := (Hin.out k hlt).2
   have hfa := Hfa.out k hlt
   obtain ⟨X, hX⟩ : ∃ X : Nat, s.getD k 0 = (X : Int) := ⟨(s.getD k 0).toNat, by omega⟩
   rw [hX] at hx0 hx1 hfa
   have hXl : X < ST.length := by have := Hstl.out; omega
   have hXI : (X : Int) < (ST.length : Int) := by omega
   rw [show ((X : Int)).toNat = X from rfl] at hfa
   obtain ⟨as_, hA, hasb, hcs⟩ := Hsk.out k hlt
   subst hA
   obtain ⟨at_, hA, hatb, hct⟩ := Hstk.out X hXl
   subst hA
   rw [hX] at hcs
   have gs := (hbr.cell (p := as_.add k) (by rw [Z2_]; exact hasb)).trans hcs
   have gt := (hbr.cell (p := at_.add X) (by rw [Z2_]; exact hatb)).trans hct
   have hFl := Hfn.out
   have Htk : Hid (F.take (k + 1) = F.take k ++ [ST.getD X 0]) := hid (by rw [List.take_succ_eq_append_getElem (by omega), ← hfa]; simp [List.getD, show k < F.length by omega])
   have hFk : (F.take k).length = k := by rw [List.length_take]; omega
   generalize ST.getD X 0 = y at *
   have Hlen : Hid ((F.take k ++ [y]).length = k + 1) := hid (by rw [List.length_append, hFk]; rfl)
   clear hcs hct hX hx0 hx1 hfa
   go_wp2_with (at_builtin; refine Z4_ rfl _ _ rfl w4.heap.size _ _ _ (F.take k) [y] rfl rfl (hown.alloc _) (Row.lit1 _ y) (by omega) (by simp) (by have := hbr.size; simp; omega) ?_)
   intro v' w6 hown' hgrow
   have hb6 : Below w4.heap.size wr w6 := ((Below.refl _ wr).alloc hbr.size _).grown hgrow (by have := hbr.size; simp; omega) (fun i hi => (hown.lt i hi).1)
   go_wp2
   go_roundw
   case rel => exact ⟨k + 1, by go_num, by omega, by rw [Htk.out, Hlen.out]; exact hown', hbr.trans hb6⟩
   case measure => simp [intOf]; omega
  ·have hke : k = s.length := by omega
   subst hke
   have Hff : Hid (F.take s.length = F) := hid (List.take_of_length_le (by have := Hfn.out; omega))
   rw [Hff.out] at hown
   go_wp2
   go_ret2
   exact ⟨_, rfl, Row.of_own hown rfl, Z0_ Hb4.out (le_refl _) hbr, Zn4 hown Hb4.out.size⟩
theorem G7_ (m : Mat) (v sv : Value) (s : List Int) (w : World) (hv : MatV w w.heap.size v m) (hs : Sml m) (hr : Row w w.heap.size sv s) (hsl : s.length ≤ 1048576) : Calls Tryz.prog 65 #[v, sv] w (Q3_ w (imgB m s) (imgL m s)) := by
 unfold imgL
 by_cases hc : chk m = 0
 ·by_cases ht : m.t = 5 ∨ m.t = 6
  ·rcases hok : okA m.n s with _ | _
   ·have hsub : subB s (allL m.n) = false := by rw [← S2_ (chk_n hc).1 (chk_n hc).2]; exact hok
    rw [show imgB m s = false by unfold imgB; rw [hsub]; simp, if_neg (by decide)]
    rcases ht with ht | ht
    ·exact Zw9 m v sv s w hv hs hr hsl hc ht hok
    ·exact Yz1 m v sv s w hv hs hr hsl hc ht hok
   ·have hsub : subB s (allL m.n) = true := by rw [← S2_ (chk_n hc).1 (chk_n hc).2]; exact hok
    rw [show imgB m s = true by unfold imgB; rw [hsub, decide_eq_true ht, decide_eq_true hc]; rfl, if_pos rfl]
    rcases ht with ht | ht
    ·exact Yz0 m v sv s w hv hs hr hsl hc ht hok
    ·exact Yz2 m v sv s w hv hs hr hsl hc ht hok
  ·rw [show imgB m s = false by unfold imgB; rw [decide_eq_false ht]; simp, if_neg (by decide)]
   exact Yi3 m v sv s w hv hs hr hsl hc (fun e => ht (.inl e)) (fun e => ht (.inr e))
 ·rw [show imgB m s = false by unfold imgB; rw [decide_eq_false hc]; simp, if_neg (by decide)]
  exact Yi2 m v sv s w hv hs hr hsl hc
end Wp
end Go.Proofs.YtgadbnbhgpehjaaGreatDoor
