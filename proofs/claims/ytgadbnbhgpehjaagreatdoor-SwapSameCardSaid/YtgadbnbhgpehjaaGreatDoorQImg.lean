/- The program's Image, walked. -/
import Derived.Test.YtgadbnbhgpehjaaGreatDoorQWalkC
import Derived.Test.YtgadbnbhgpehjaaGreatDoorZU
set_option maxHeartbeats 8000000
set_option maxRecDepth 100000
open Go.Lib (hid)
open Nat (le_refl)
namespace Go.Proofs.YtgadbnbhgpehjaaGreatDoor
open Go.RowKit
namespace Wp
def Q3_ (w : World) (b : Bool) (l : List Int) (e : Ending) (w' : World) : Prop := ∃ v, e = .returned (.tuple #[v, .bool b]) ∧ Row w' w'.heap.size v l ∧ Below w.heap.size w w' ∧ ∀ (A : Addr) (n c : Nat), v = .slice (some A) n c → w.heap.size ≤ A.block
theorem B2_ (w w' : World) (hb : Below w.heap.size w w') : Q3_ w false [] (.returned (.tuple #[.slice none 0 0, .bool false])) w' := ⟨_, rfl, Row.nil_ _ _, hb, fun _ _ _ h => by cases h⟩
theorem Yr1 (m : Mat) (v sv : Value) (w : World) (hv : MatV w w.heap.size v m) (h5 : ¬ m.t = 5) (h6 : ¬ m.t = 6) : Calls Tryz.prog 116 #[v, sv] w (Q3_ w false []) := by
 obtain ⟨lv, iv, hve, _, _⟩ := hv.open
 have Hb0 := hid (Z1_ w m lv iv)
 have gb := (Z3_ w m lv iv).cell
 have g0 := gb 0
 have e5 : (m.t != 5) = true := by simpa using h5
 have e6 : (m.t != 6) = true := by simpa using h6
 have e5' : (m.t == 5) = false := by simpa using h5
 have e6' : (m.t == 6) = false := by simpa using h6
 subst hve
 unfold boxed at *
 clear gb hv h5 h6
 go_enter Tryz.func116, Tryz.ntmps116
 go_wp2
 go_ret2
 exact B2_ w _ Hb0.out
theorem Yf0 (E : Nat → Addr) (n a b : Int) (l : List (List Int)) (i : List Mat) (v sv : Value) (w : World) (hv : MatV w w.heap.size v (.mk 5 n a b l i)) (hs : Sml (.mk 5 n a b l i)) (hE : Env E w) (hc : chk (.mk 5 n a b l i) ≠ 0) : Calls Tryz.prog 116 #[v, sv] w (Q3_ w false []) := by
 have hne : (chk (.mk 5 n a b l i) != 0) = true := by simpa using hc
 generalize hD : chk (.mk 5 n a b l i) = D at *
 have Hc := hid hD
 obtain ⟨m, hm⟩ : ∃ m, m = Mat.mk 5 n a b l i := ⟨_, rfl⟩
 rw [← hm] at hv hs Hc
 have hmt : m.t = 5 := by rw [hm]; rfl
 clear hD hm hc
 obtain ⟨lv, iv, hve, hl2, hi2⟩ := hv.open
 have Hb0 := hid (Z1_ w m lv iv)
 have Hv := hid (hv.up Hb0.out)
 have HE := hid (hE.up Hb0.out)
 have Hblk := hid (Z3_ w m lv iv)
 have gb := Hblk.out.cell
 have g0 := gb 0
 have g1 := gb 1
 have g2 := gb 2
 have g3 := gb 3
 have g4 := gb 4
 have g5 := gb 5
 subst hve
 unfold boxed at *
 rw [hmt] at g0
 clear hv hE gb hl2 hi2
 go_enter Tryz.func116, Tryz.ntmps116
 rw [hmt] at Hv Hblk Hb0 HE
 rw [hmt]
 go_wp2_with fail
 refine (C7_ E m _ _ Hv.out hs HE.out).mono ?_
 rintro e w1 ⟨rfl, hb1⟩
 rw [Hc.out]
 have Hb1 := hid (Z0_ Hb0.out (le_refl _) hb1)
 clear hb1 g0 g1 g2 g3 g4 g5
 go_wp2
 go_ret2
 exact B2_ w _ Hb1.out
theorem Yf1 (E : Nat → Addr) (n a b : Int) (l : List (List Int)) (i : List Mat) (v sv : Value) (s : List Int) (w : World) (hv : MatV w w.heap.size v (.mk 5 n a b l i)) (hs : Sml (.mk 5 n a b l i)) (hE : Env E w) (hr : Row w w.heap.size sv s) (hsl : s.length ≤ 1048576) (hc : chk (.mk 5 n a b l i) = 0) (hsub : subB s (allL n) = false) : Calls Tryz.prog 116 #[v, sv] w (Q3_ w false []) := by
 obtain ⟨m, hm⟩ : ∃ m, m = Mat.mk 5 n a b l i := ⟨_, rfl⟩
 rw [← hm] at hv hs hc
 have hmt : m.t = 5 := by rw [hm]; rfl
 rw [show n = m.n by rw [hm]; rfl] at hsub
 clear hm
 have Hc := hid hc
 have Hsub := hid hsub
 obtain ⟨lv, iv, hve, hl2, hi2⟩ := hv.open
 have Hb0 := hid (Z1_ w m lv iv)
 have Hv := hid (hv.up Hb0.out)
 have HE := hid (hE.up Hb0.out)
 have Hblk := hid (Z3_ w m lv iv)
 have gb := Hblk.out.cell
 have g0 := gb 0
 have g1 := gb 1
 have g2 := gb 2
 have g3 := gb 3
 have g4 := gb 4
 have g5 := gb 5
 subst hve
 unfold boxed at *
 rw [hmt] at g0
 have Hsv := hid (hr.up Hb0.out)
 have hal := D2_ m.n
 clear hv hE gb hl2 hi2 hc hsub hr
 go_enter Tryz.func116, Tryz.ntmps116
 rw [hmt] at Hv Hblk Hb0 HE Hsv
 rw [hmt]
 go_wp2_with fail
 refine (C7_ E m _ _ Hv.out hs HE.out).mono ?_
 rintro e w1 ⟨rfl, hb1⟩
 rw [Hc.out]
 have Hb1 := hid (Z0_ Hb0.out (le_refl _) hb1)
 have Hblk1 := hid (Hblk.out.below hb1 (by simp))
 have Hsv1 := hid (Hsv.out.up hb1)
 have c1 := Hblk1.out.cell 1
 clear hb1 g0 g1 g2 g3 g4 g5
 go_wp2_with fail
 refine (H0_ _ _).mono ?_
 rintro e w2 ⟨v2, rfl, hr2, hb2⟩
 have Hb2 := hid (Z0_ Hb1.out (le_refl _) hb2)
 have Hblk2 := hid (Hblk1.out.below hb2 Hblk1.out.lt)
 have Hsv2 := hid (Hsv1.out.up hb2)
 have Hr2 := hid hr2
 clear hb2 hr2 c1
 go_wp2_with fail
 refine (R2_ _ _ s (allL m.n) _ Hsv2.out Hr2.out hsl hal).mono ?_
 rintro e w3 ⟨rfl, hb3⟩
 rw [Hsub.out]
 have Hb3 := hid (Z0_ Hb2.out (le_refl _) hb3)
 clear hb3
 go_wp2
 go_ret2
 exact B2_ w _ Hb3.out
theorem Yf2 (E : Nat → Addr) (n a b : Int) (l : List (List Int)) (i : List Mat) (v sv : Value) (s : List Int) (w : World) (hv : MatV w w.heap.size v (.mk 5 n a b l i)) (hs : Sml (.mk 5 n a b l i)) (hE : Env E w) (hr : Row w w.heap.size sv s) (hsl : s.length ≤ 1048576) (hc : chk (.mk 5 n a b l i) = 0) (hsub : subB s (allL n) = true) : Calls Tryz.prog 116 #[v, sv] w (Q3_ w true (imgM (.mk 5 n a b l i) s)) := by
 obtain ⟨m, hm⟩ : ∃ m, m = Mat.mk 5 n a b l i := ⟨_, rfl⟩
 rw [← hm] at hv hs hc
 rw [← hm]
 have hmt : m.t = 5 := by rw [hm]; rfl
 rw [show n = m.n by rw [hm]; rfl] at hsub
 clear hm
 have Hc := hid hc
 have Hsub := hid hsub
 obtain ⟨lv, iv, hve, hl2, hi2⟩ := hv.open
 have Hb0 := hid (Z1_ w m lv iv)
 have Hv := hid (hv.up Hb0.out)
 have HE := hid (hE.up Hb0.out)
 have Hblk := hid (Z3_ w m lv iv)
 have gb := Hblk.out.cell
 have g0 := gb 0
 have g1 := gb 1
 have g2 := gb 2
 have g3 := gb 3
 have g4 := gb 4
 have g5 := gb 5
 subst hve
 unfold boxed at *
 rw [hmt] at g0
 have Hsv := hid (hr.up Hb0.out)
 have hal := D2_ m.n
 have hfl := B9_ hc (by omega)
 have hstay := P0_ hc (by omega)
 have hin := Yj5 hc hsub
 have hn := chk_n hc
 have hfn := S0_ m s
 have hfa := Yj6 m s
 have hrow := sml_r hs (Y1_ m.l 0 [] (by omega))
 obtain ⟨Al, cl, rfl, _, hlk⟩ := hl2
 obtain ⟨Ai, ci, rfl, _, hik⟩ := hi2
 obtain ⟨ad, u0, hA, hab, hc0, hr0⟩ := hlk 0 (by omega)
 subst hA
 obtain ⟨ai, ui, hA, hab2, hsix, hmv⟩ := hik 0 (by omega)
 subst hA
 rw [add_zero] at hc0
 rw [show (0 : Nat) * 6 = 0 from rfl, add_zero] at hsix
 obtain ⟨lv2, iv2, hui, _, _⟩ := hmv.open
 obtain ⟨x0, x1, x2, x3, x4, x5, hui2, s0, s1, _⟩ := hsix
 rw [hui] at hui2
 injection hui2 with hui2
 injection hui2 with hui2
 injection hui2 with _ hui2
 injection hui2 with hx1 _
 subst hx1
 have hll : (0 : Int) < (m.l.length : Int) := by omega
 have hll' : 0 < m.l.length := by omega
 have hii : (0 : Int) < (m.i.length : Int) := by omega
 have hii' : 0 < m.i.length := by omega
 obtain ⟨F, hF⟩ : ∃ F, F = imgM m s := ⟨_, rfl⟩
 rw [← hF] at hfn hfa
 rw [← hF]
 have hst : stayL m = m.l.getD 0 [] := by
  unfold stayL
  rw [if_neg (by omega)]
  rfl
 obtain ⟨ST, hST⟩ : ∃ ST, ST = stayL m := ⟨_, rfl⟩
 rw [← hST] at hfa hstay hst
 have hal2 := D2_ (m.i.getD 0 default).n
 clear hST hF
 generalize m.l.getD 0 [] = r at *
 generalize m.i.getD 0 default = x at *
 generalize m.n = N at *
 have Hst := hid hst
 have Hin := hid hin
 have Hfa := hid hfa
 have Hfn := hid hfn
 have Hab := hid hab
 have Hab2 := hid hab2
 have Hr0 := hid hr0
 have Hc0 := hid hc0
 have Hs1 := hid s1
 have Hmt := hid hmt
 have hsl' : (s.length : Int) ≤ 1048576 := by omega
 have hsI : (ST.length : Int) ≤ 64 := by omega
 have Hstl := hid hstay
 obtain ⟨i0, hi, hz0, hz1, hz2⟩ := info_parts info3
 clear hv hE gb hc hsub hst hin hfa hfn hlk hik hr0 hc0 s0 s1 hmv hui hab hab2 hfl hstay
 go_enter Tryz.func116, Tryz.ntmps116
 rw [Hmt.out] at Hv Hblk Hb0 HE Hsv
 rw [Hmt.out]
 clear hmt
 go_wp2_with fail
 refine (C7_ E m _ _ Hv.out hs HE.out).mono ?_
 rintro e w1 ⟨rfl, hb1⟩
 rw [Hc.out]
 have Hb1 := hid (Z0_ Hb0.out (le_refl _) hb1)
 have Hblk1 := hid (Hblk.out.below hb1 (by simp))
 have Hsv1 := hid (Hsv.out.up hb1)
 have c1 := Hblk1.out.cell 1
 clear hb1 g0 g1 g2 g3 g4 g5
 go_wp2_with fail
 refine (H0_ _ _).mono ?_
 rintro e w2 ⟨v2, rfl, hr2, hb2⟩
 have Hb2 := hid (Z0_ Hb1.out (le_refl _) hb2)
 have Hblk2 := hid (Hblk1.out.below hb2 Hblk1.out.lt)
 have Hsv2 := hid (Hsv1.out.up hb2)
 have Hr2 := hid hr2
 clear hb2 hr2 c1
 go_wp2_with fail
 refine (R2_ _ _ s (allL N) _ Hsv2.out Hr2.out hsl hal).mono ?_
 rintro e w3 ⟨rfl, hb3⟩
 rw [Hsub.out]
 have Hb3 := hid (Z0_ Hb2.out (le_refl _) hb3)
 have Hblk3 := hid (Hblk2.out.below hb3 Hblk2.out.lt)
 have Hsv3 := hid (Hsv2.out.up hb3)
 have c0 := Hblk3.out.cell 0
 have c4 := Hblk3.out.cell 4
 have cr := (Hb3.out.cell (p := ad) Hab.out).trans Hc0.out
 have Hru3 := hid ((Hr0.out.below Hb3.out).mono Hb3.out.size)
 clear hb3
 have Hstr : Hid (Row w3 w3.heap.size u0 ST) := by
  show Row _ _ _ _
  rw [Hst.out]
  exact Hru3.out
 obtain ⟨As, cs, rfl, _, hsk⟩ := id Hsv3.out
 obtain ⟨Ast, cst, rfl, _, hstk⟩ := id Hstr.out
 have Hstk := hid hstk
 clear hstk
 have Hsk := hid hsk
 clear hsk
 go_wp2_with (at_make; refine wpList_make_full w3 rfl _ _ 26 rfl w3.heap.size 3 i0 (.int .i64 0) 1 (by kernel_rfl) hi hz0 hz1 .i64 .i64 _ _ s.length rfl rfl (by rfl) (by rfl) (by rw [hz2]; omega) (by unfold maxLen; omega) (le_refl _) ?_)
 intro w6 hown6 hg6
 have hblk6 := M2_ w6 w3.heap.size s.length (by rw [Nat.mul_one]; exact hown6)
 rw [← Zb0 F] at hblk6
 have hb6 : Below w3.heap.size w3 w6 := (Below.refl _ w3).grown hg6 (le_refl _) (fun i hi => by cases hi)
 have Hb6 := hid hb6
 have Hblk6 := hid hblk6
 clear hown6 hg6 hb6 hblk6
 go_wp2
 go_loopw [52] (fun vk wr => ∃ k : Nat, vk = .int .i64 k ∧ k ≤ s.length ∧ Blk wr w3.heap.size 3 (fillM F s.length k) ∧ Below w3.heap.size w3 wr) (fun vk _ => s.length - (intOf vk).toNat)
 case atStart => exact ⟨0, rfl, Nat.zero_le _, Hblk6.out, Hb6.out⟩
 case round =>
  clear Hblk6 Hb6
  obtain ⟨k, rfl, hk, hblk, hbr⟩ := hrel
  have Hblk := hid hblk
  have Hbr := hid hbr
  by_cases hlt : k < s.length
  ·have hltI : (k : Int) < (s.length : Int) := by omega
   have hx0 := (Hin.out k hlt).1
   have hx1 := (Hin.out k hlt).2
   have hfa := Hfa.out k hlt
   obtain ⟨X, hX⟩ : ∃ X : Nat, s.getD k 0 = (X : Int) := ⟨(s.getD k 0).toNat, by omega⟩
   rw [hX] at hx0 hx1 hfa
   have hXl : X < ST.length := by have := Hstl.out; omega
   have hXI : (X : Int) < (ST.length : Int) := by omega
   rw [show ((X : Int)).toNat = X from rfl] at hfa
   obtain ⟨as_, hA, hasb, hcs⟩ := Hsk.out k hlt
   subst hA
   obtain ⟨at_, hA, hatb, hct⟩ := Hstk.out X hXl
   subst hA
   rw [hX] at hcs
   have gs := (hbr.cell (p := as_.add k) (by rw [Z2_]; exact hasb)).trans hcs
   have gt := (hbr.cell (p := at_.add X) (by rw [Z2_]; exact hatb)).trans hct
   have gf := hblk.frozen k
   have hsz := Za9 (n := s.length) Hfn.out hk
   obtain ⟨old, gc⟩ : ∃ old, wr.cell? ⟨w3.heap.size, k, none⟩ = some old := ⟨(fillM F s.length k)[k]'(by omega), by rw [hblk.cell]; simp [hsz, hlt]⟩
   have hset := Zl5 (n := s.length) Hfn.out hlt
   rw [hfa] at hset
   have Hset := hid hset
   generalize ST.getD X 0 = y at *
   clear hblk hbr hcs hct hX hx0 hx1 hfa hset hsz
   go_wp2
   go_roundw
   case rel => exact ⟨k + 1, by go_num, by omega, by rw [← Hset.out]; exact Hblk.out.set_ k _, Hbr.out.setCell (by exact le_refl _) _⟩
   case measure => simp [intOf]; omega
  ·have hke : k = s.length := by omega
   subst hke
   clear hblk hbr
   go_wp2
   go_ret2
   exact ⟨_, rfl, Zl6 Hfn.out Hblk.out (by unfold maxLen; omega), Z0_ Hb3.out (le_refl _) Hbr.out, fun A n c h => by cases h; exact Hb3.out.size⟩
theorem Yf3 (E : Nat → Addr) (n a b : Int) (l : List (List Int)) (i : List Mat) (v sv : Value) (w : World) (hv : MatV w w.heap.size v (.mk 6 n a b l i)) (hs : Sml (.mk 6 n a b l i)) (hE : Env E w) (hc : chk (.mk 6 n a b l i) ≠ 0) : Calls Tryz.prog 116 #[v, sv] w (Q3_ w false []) := by
 have hne : (chk (.mk 6 n a b l i) != 0) = true := by simpa using hc
 generalize hD : chk (.mk 6 n a b l i) = D at *
 have Hc := hid hD
 obtain ⟨m, hm⟩ : ∃ m, m = Mat.mk 6 n a b l i := ⟨_, rfl⟩
 rw [← hm] at hv hs Hc
 have hmt : m.t = 6 := by rw [hm]; rfl
 clear hD hm hc
 obtain ⟨lv, iv, hve, hl2, hi2⟩ := hv.open
 have Hb0 := hid (Z1_ w m lv iv)
 have Hv := hid (hv.up Hb0.out)
 have HE := hid (hE.up Hb0.out)
 have Hblk := hid (Z3_ w m lv iv)
 have gb := Hblk.out.cell
 have g0 := gb 0
 have g1 := gb 1
 have g2 := gb 2
 have g3 := gb 3
 have g4 := gb 4
 have g5 := gb 5
 subst hve
 unfold boxed at *
 rw [hmt] at g0
 clear hv hE gb hl2 hi2
 go_enter Tryz.func116, Tryz.ntmps116
 rw [hmt] at Hv Hblk Hb0 HE
 rw [hmt]
 go_wp2_with fail
 refine (C7_ E m _ _ Hv.out hs HE.out).mono ?_
 rintro e w1 ⟨rfl, hb1⟩
 rw [Hc.out]
 have Hb1 := hid (Z0_ Hb0.out (le_refl _) hb1)
 clear hb1 g0 g1 g2 g3 g4 g5
 go_wp2
 go_ret2
 exact B2_ w _ Hb1.out
theorem Yf4 (E : Nat → Addr) (n a b : Int) (l : List (List Int)) (i : List Mat) (v sv : Value) (s : List Int) (w : World) (hv : MatV w w.heap.size v (.mk 6 n a b l i)) (hs : Sml (.mk 6 n a b l i)) (hE : Env E w) (hr : Row w w.heap.size sv s) (hsl : s.length ≤ 1048576) (hc : chk (.mk 6 n a b l i) = 0) (hsub : subB s (allL n) = false) : Calls Tryz.prog 116 #[v, sv] w (Q3_ w false []) := by
 obtain ⟨m, hm⟩ : ∃ m, m = Mat.mk 6 n a b l i := ⟨_, rfl⟩
 rw [← hm] at hv hs hc
 have hmt : m.t = 6 := by rw [hm]; rfl
 rw [show n = m.n by rw [hm]; rfl] at hsub
 clear hm
 have Hc := hid hc
 have Hsub := hid hsub
 obtain ⟨lv, iv, hve, hl2, hi2⟩ := hv.open
 have Hb0 := hid (Z1_ w m lv iv)
 have Hv := hid (hv.up Hb0.out)
 have HE := hid (hE.up Hb0.out)
 have Hblk := hid (Z3_ w m lv iv)
 have gb := Hblk.out.cell
 have g0 := gb 0
 have g1 := gb 1
 have g2 := gb 2
 have g3 := gb 3
 have g4 := gb 4
 have g5 := gb 5
 subst hve
 unfold boxed at *
 rw [hmt] at g0
 have Hsv := hid (hr.up Hb0.out)
 have hal := D2_ m.n
 clear hv hE gb hl2 hi2 hc hsub hr
 go_enter Tryz.func116, Tryz.ntmps116
 rw [hmt] at Hv Hblk Hb0 HE Hsv
 rw [hmt]
 go_wp2_with fail
 refine (C7_ E m _ _ Hv.out hs HE.out).mono ?_
 rintro e w1 ⟨rfl, hb1⟩
 rw [Hc.out]
 have Hb1 := hid (Z0_ Hb0.out (le_refl _) hb1)
 have Hblk1 := hid (Hblk.out.below hb1 (by simp))
 have Hsv1 := hid (Hsv.out.up hb1)
 have c1 := Hblk1.out.cell 1
 clear hb1 g0 g1 g2 g3 g4 g5
 go_wp2_with fail
 refine (H0_ _ _).mono ?_
 rintro e w2 ⟨v2, rfl, hr2, hb2⟩
 have Hb2 := hid (Z0_ Hb1.out (le_refl _) hb2)
 have Hblk2 := hid (Hblk1.out.below hb2 Hblk1.out.lt)
 have Hsv2 := hid (Hsv1.out.up hb2)
 have Hr2 := hid hr2
 clear hb2 hr2 c1
 go_wp2_with fail
 refine (R2_ _ _ s (allL m.n) _ Hsv2.out Hr2.out hsl hal).mono ?_
 rintro e w3 ⟨rfl, hb3⟩
 rw [Hsub.out]
 have Hb3 := hid (Z0_ Hb2.out (le_refl _) hb3)
 clear hb3
 go_wp2
 go_ret2
 exact B2_ w _ Hb3.out
theorem Yf5 (E : Nat → Addr) (n a b : Int) (l : List (List Int)) (i : List Mat) (v sv : Value) (s : List Int) (w : World) (hv : MatV w w.heap.size v (.mk 6 n a b l i)) (hs : Sml (.mk 6 n a b l i)) (hE : Env E w) (hr : Row w w.heap.size sv s) (hsl : s.length ≤ 1048576) (hc : chk (.mk 6 n a b l i) = 0) (hsub : subB s (allL n) = true) : Calls Tryz.prog 116 #[v, sv] w (Q3_ w true (imgM (.mk 6 n a b l i) s)) := by
 obtain ⟨m, hm⟩ : ∃ m, m = Mat.mk 6 n a b l i := ⟨_, rfl⟩
 rw [← hm] at hv hs hc
 rw [← hm]
 have hmt : m.t = 6 := by rw [hm]; rfl
 rw [show n = m.n by rw [hm]; rfl] at hsub
 clear hm
 have Hc := hid hc
 have Hsub := hid hsub
 obtain ⟨lv, iv, hve, hl2, hi2⟩ := hv.open
 have Hb0 := hid (Z1_ w m lv iv)
 have Hv := hid (hv.up Hb0.out)
 have HE := hid (hE.up Hb0.out)
 have Hblk := hid (Z3_ w m lv iv)
 have gb := Hblk.out.cell
 have g0 := gb 0
 have g1 := gb 1
 have g2 := gb 2
 have g3 := gb 3
 have g4 := gb 4
 have g5 := gb 5
 subst hve
 unfold boxed at *
 rw [hmt] at g0
 have Hsv := hid (hr.up Hb0.out)
 have hal := D2_ m.n
 have hfl := B9_ hc (by omega)
 have hstay := P0_ hc (by omega)
 have hin := Yj5 hc hsub
 have hn := chk_n hc
 have hfn := S0_ m s
 have hfa := Yj6 m s
 have hrow := sml_r hs (Y1_ m.l 0 [] (by omega))
 obtain ⟨Al, cl, rfl, _, hlk⟩ := hl2
 obtain ⟨Ai, ci, rfl, _, hik⟩ := hi2
 obtain ⟨ad, u0, hA, hab, hc0, hr0⟩ := hlk 0 (by omega)
 subst hA
 obtain ⟨ai, ui, hA, hab2, hsix, hmv⟩ := hik 0 (by omega)
 subst hA
 rw [add_zero] at hc0
 rw [show (0 : Nat) * 6 = 0 from rfl, add_zero] at hsix
 obtain ⟨lv2, iv2, hui, _, _⟩ := hmv.open
 obtain ⟨x0, x1, x2, x3, x4, x5, hui2, s0, s1, _⟩ := hsix
 rw [hui] at hui2
 injection hui2 with hui2
 injection hui2 with hui2
 injection hui2 with _ hui2
 injection hui2 with hx1 _
 subst hx1
 have hll : (0 : Int) < (m.l.length : Int) := by omega
 have hll' : 0 < m.l.length := by omega
 have hii : (0 : Int) < (m.i.length : Int) := by omega
 have hii' : 0 < m.i.length := by omega
 obtain ⟨F, hF⟩ : ∃ F, F = imgM m s := ⟨_, rfl⟩
 rw [← hF] at hfn hfa
 rw [← hF]
 have hst : stayL m = Z7_ (allL (m.i.getD 0 default).n) (m.l.getD 0 []) := by
  unfold stayL
  rw [if_pos hmt]
  rfl
 obtain ⟨ST, hST⟩ : ∃ ST, ST = stayL m := ⟨_, rfl⟩
 rw [← hST] at hfa hstay hst
 have hal2 := D2_ (m.i.getD 0 default).n
 clear hST hF
 generalize m.l.getD 0 [] = r at *
 generalize m.i.getD 0 default = x at *
 generalize m.n = N at *
 have Hst := hid hst
 have Hin := hid hin
 have Hfa := hid hfa
 have Hfn := hid hfn
 have Hab := hid hab
 have Hab2 := hid hab2
 have Hr0 := hid hr0
 have Hc0 := hid hc0
 have Hs1 := hid s1
 have Hmt := hid hmt
 have hsl' : (s.length : Int) ≤ 1048576 := by omega
 have hsI : (ST.length : Int) ≤ 64 := by omega
 have Hstl := hid hstay
 obtain ⟨i0, hi, hz0, hz1, hz2⟩ := info_parts info3
 clear hv hE gb hc hsub hst hin hfa hfn hlk hik hr0 hc0 s0 s1 hmv hui hab hab2 hfl hstay
 go_enter Tryz.func116, Tryz.ntmps116
 rw [Hmt.out] at Hv Hblk Hb0 HE Hsv
 rw [Hmt.out]
 clear hmt
 go_wp2_with fail
 refine (C7_ E m _ _ Hv.out hs HE.out).mono ?_
 rintro e w1 ⟨rfl, hb1⟩
 rw [Hc.out]
 have Hb1 := hid (Z0_ Hb0.out (le_refl _) hb1)
 have Hblk1 := hid (Hblk.out.below hb1 (by simp))
 have Hsv1 := hid (Hsv.out.up hb1)
 have c1 := Hblk1.out.cell 1
 clear hb1 g0 g1 g2 g3 g4 g5
 go_wp2_with fail
 refine (H0_ _ _).mono ?_
 rintro e w2 ⟨v2, rfl, hr2, hb2⟩
 have Hb2 := hid (Z0_ Hb1.out (le_refl _) hb2)
 have Hblk2 := hid (Hblk1.out.below hb2 Hblk1.out.lt)
 have Hsv2 := hid (Hsv1.out.up hb2)
 have Hr2 := hid hr2
 clear hb2 hr2 c1
 go_wp2_with fail
 refine (R2_ _ _ s (allL N) _ Hsv2.out Hr2.out hsl hal).mono ?_
 rintro e w3 ⟨rfl, hb3⟩
 rw [Hsub.out]
 have Hb3 := hid (Z0_ Hb2.out (le_refl _) hb3)
 have Hblk3 := hid (Hblk2.out.below hb3 Hblk2.out.lt)
 have Hsv3 := hid (Hsv2.out.up hb3)
 have c0 := Hblk3.out.cell 0
 have c4 := Hblk3.out.cell 4
 have cr := (Hb3.out.cell (p := ad) Hab.out).trans Hc0.out
 have Hru3 := hid ((Hr0.out.below Hb3.out).mono Hb3.out.size)
 clear hb3
 go_wp2
 have hlt : w.heap.size < w3.heap.size := Hblk3.out.lt
 have haw : ad.block < w3.heap.size := Nat.lt_of_lt_of_le Hab.out Hb3.out.size
 have haiw : ai.block < w3.heap.size := Nat.lt_of_lt_of_le Hab2.out Hb3.out.size
 have K1 : Hid (∀ W, Below w3.drew.heap.size w3.drew W → W.cell? ⟨w.heap.size, 4, none⟩ = some (.slice (some ad) m.l.length cl) ∧ W.cell? ⟨w.heap.size, 5, none⟩ = some (.slice (some ai) m.i.length ci) ∧ W.cell? ad = some u0 ∧ W.cell? ⟨ai.block, ai.off + 1, none⟩ = some (.int .i64 x.n)) := fun W hW =>
  ⟨(hW.cell (p := ⟨w.heap.size, 4, none⟩) hlt).trans (Hblk3.out.cell 4), (hW.cell (p := ⟨w.heap.size, 5, none⟩) hlt).trans (Hblk3.out.cell 5), (hW.cell (p := ad) haw).trans cr,
   (hW.cell (p := ⟨ai.block, ai.off + 1, none⟩) haiw).trans ((Hb3.out.cell (p := ⟨ai.block, ai.off + 1, none⟩) Hab2.out).trans Hs1.out)⟩
 clear c0 c4 cr
 go_region_held3 (fun W => W.cell? ⟨w.heap.size, 4, none⟩ = some (.slice (some ad) m.l.length cl) ∧ W.cell? ⟨w.heap.size, 5, none⟩ = some (.slice (some ai) m.i.length ci) ∧ W.cell? ad = some u0 ∧ W.cell? ⟨ai.block, ai.off + 1, none⟩ = some (.int .i64 x.n))
  (first | exact K1.out _ (Below.refl _ _) | exact K1.out _ hb4 | exact K1.out _ (Z0_ hb4 (le_refl _) hb5))
  (first
  | (go_at_call 53; refine (H0_ _ _).mono ?_; rintro e w4 ⟨v4, rfl, hr4, hb4⟩; have hru4 : Row w4 w4.heap.size u0 r := (show Row w3.drew w3.drew.heap.size u0 r from Hru3.out).up hb4)
  | (go_at_call 41; refine (E4_ _ _ (allL x.n) r _ hr4 hru4 hal2 (by omega)).mono ?_; rintro e w5 ⟨v5, rfl, hr5, hb5⟩))
 have Hb5 := hid (Z0_ (Z0_ Hb3.out.drew (le_refl _) hb4) (le_refl _) hb5)
 have Hstr : Hid (Row w5 w5.heap.size v5 ST) := by
  show Row _ _ _ _
  rw [Hst.out]
  exact hr5
 have Hsv5 := hid ((show Row w3.drew w3.drew.heap.size sv s from Hsv3.out).up (Z0_ hb4 (le_refl _) hb5))
 clear hb4 hb5 hr4 hru4 hr5 hlt haw haiw
 generalize v5 = vst at *
 obtain ⟨As, cs, rfl, _, hsk⟩ := id Hsv5.out
 obtain ⟨Ast, cst, rfl, _, hstk⟩ := id Hstr.out
 have Hstk := hid hstk
 clear hstk
 go_simp
 have Hsk := hid hsk
 clear hsk
 go_wp2_with (at_make; refine wpList_make_full w5 rfl _ _ 26 rfl w5.heap.size 3 i0 (.int .i64 0) 1 (by kernel_rfl) hi hz0 hz1 .i64 .i64 _ _ s.length rfl rfl (by rfl) (by rfl) (by rw [hz2]; omega) (by unfold maxLen; omega) (le_refl _) ?_)
 intro w6 hown6 hg6
 have hblk6 := M2_ w6 w5.heap.size s.length (by rw [Nat.mul_one]; exact hown6)
 rw [← Zb0 F] at hblk6
 have hb6 : Below w5.heap.size w5 w6 := (Below.refl _ w5).grown hg6 (le_refl _) (fun i hi => by cases hi)
 have Hb6 := hid hb6
 have Hblk6 := hid hblk6
 clear hown6 hg6 hb6 hblk6
 go_wp2
 go_loopw [52] (fun vk wr => ∃ k : Nat, vk = .int .i64 k ∧ k ≤ s.length ∧ Blk wr w5.heap.size 3 (fillM F s.length k) ∧ Below w5.heap.size w5 wr) (fun vk _ => s.length - (intOf vk).toNat)
 case atStart => exact ⟨0, rfl, Nat.zero_le _, Hblk6.out, Hb6.out⟩
 case round =>
  clear Hblk6 Hb6
  obtain ⟨k, rfl, hk, hblk, hbr⟩ := hrel
  have Hblk := hid hblk
  have Hbr := hid hbr
  by_cases hlt : k < s.length
  ·have hltI : (k : Int) < (s.length : Int) := by omega
   have hx0 := (Hin.out k hlt).1
   have hx1 := (Hin.out k hlt).2
   have hfa := Hfa.out k hlt
   obtain ⟨X, hX⟩ : ∃ X : Nat, s.getD k 0 = (X : Int) := ⟨(s.getD k 0).toNat, by omega⟩
   rw [hX] at hx0 hx1 hfa
   have hXl : X < ST.length := by have := Hstl.out; omega
   have hXI : (X : Int) < (ST.length : Int) := by omega
   rw [show ((X : Int)).toNat = X from rfl] at hfa
   obtain ⟨as_, hA, hasb, hcs⟩ := Hsk.out k hlt
   subst hA
   obtain ⟨at_, hA, hatb, hct⟩ := Hstk.out X hXl
   subst hA
   rw [hX] at hcs
   have gs := (hbr.cell (p := as_.add k) (by rw [Z2_]; exact hasb)).trans hcs
   have gt := (hbr.cell (p := at_.add X) (by rw [Z2_]; exact hatb)).trans hct
   have gf := hblk.frozen k
   have hsz := Za9 (n := s.length) Hfn.out hk
   obtain ⟨old, gc⟩ : ∃ old, wr.cell? ⟨w5.heap.size, k, none⟩ = some old := ⟨(fillM F s.length k)[k]'(by omega), by rw [hblk.cell]; simp [hsz, hlt]⟩
   have hset := Zl5 (n := s.length) Hfn.out hlt
   rw [hfa] at hset
   have Hset := hid hset
   generalize ST.getD X 0 = y at *
   clear hblk hbr hcs hct hX hx0 hx1 hfa hset hsz
   go_wp2
   go_roundw
   case rel => exact ⟨k + 1, by go_num, by omega, by rw [← Hset.out]; exact Hblk.out.set_ k _, Hbr.out.setCell (by exact le_refl _) _⟩
   case measure => simp [intOf]; omega
  ·have hke : k = s.length := by omega
   subst hke
   clear hblk hbr
   go_wp2
   go_ret2
   exact ⟨_, rfl, Zl6 Hfn.out Hblk.out (by unfold maxLen; omega), Z0_ Hb5.out (le_refl _) Hbr.out, fun A n c h => by cases h; exact Hb5.out.size⟩
theorem Zm5 (E : Nat → Addr) (m : Mat) (v sv : Value) (s : List Int) (w : World) (hv : MatV w w.heap.size v m) (hs : Sml m) (hE : Env E w) (hr : Row w w.heap.size sv s) (hsl : s.length ≤ 1048576) : Calls Tryz.prog 116 #[v, sv] w (Q3_ w (imgB m s) (imgL m s)) := by
 unfold imgL
 by_cases ht : m.t = 5 ∨ m.t = 6
 ·by_cases hc : chk m = 0
  ·rcases hsub : subB s (allL m.n) with _ | _
   ·rw [show imgB m s = false by unfold imgB; rw [hsub]; simp, if_neg (by decide)]
    obtain ⟨t, n, a, b, l, i⟩ := m
    rcases ht with ht | ht <;> cases ht
    ·exact Yf1 E n a b l i v sv s w hv hs hE hr hsl hc hsub
    ·exact Yf4 E n a b l i v sv s w hv hs hE hr hsl hc hsub
   ·rw [show imgB m s = true by unfold imgB; rw [hsub, decide_eq_true ht, decide_eq_true hc]; rfl, if_pos rfl]
    obtain ⟨t, n, a, b, l, i⟩ := m
    rcases ht with ht | ht <;> cases ht
    ·exact Yf2 E n a b l i v sv s w hv hs hE hr hsl hc hsub
    ·exact Yf5 E n a b l i v sv s w hv hs hE hr hsl hc hsub
  ·rw [show imgB m s = false by unfold imgB; rw [decide_eq_false hc]; simp, if_neg (by decide)]
   obtain ⟨t, n, a, b, l, i⟩ := m
   rcases ht with ht | ht <;> cases ht
   ·exact Yf0 E n a b l i v sv w hv hs hE hc
   ·exact Yf3 E n a b l i v sv w hv hs hE hc
 ·rw [show imgB m s = false by unfold imgB; rw [decide_eq_false ht]; simp, if_neg (by decide)]
  exact Yr1 m v sv w hv (fun e => ht (.inl e)) (fun e => ht (.inr e))
end Wp
end Go.Proofs.YtgadbnbhgpehjaaGreatDoor
