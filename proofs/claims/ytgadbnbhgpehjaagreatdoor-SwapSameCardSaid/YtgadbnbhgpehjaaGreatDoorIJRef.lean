/- The document's answers on graphs (is that one, its components, its parts, its rank, is it a forest), walked. -/
import Derived.Test.YtgadbnbhgpehjaaGreatDoorZJ
set_option maxHeartbeats 8000000
set_option maxRecDepth 100000
open Go.Lib (hid)
namespace Go.Proofs.YtgadbnbhgpehjaaGreatDoor
open Go.RowKit
namespace Wp
theorem Xe9 {n : Int} {es : List (Int × Int)} {k : Nat} (hk : k = es.length) (h : Za7 n es k) : isG n es = sizeB n es := by
 unfold isG
 have : es.all (okE n) = true := by
  rw [List.all_eq_true]
  intro e he
  obtain ⟨j, hj, rfl⟩ := List.mem_iff_getElem.1 he
  have := h j (by omega)
  rwa [Zy9 hj] at this
 rw [this, Bool.and_true]
theorem Zn5 (n : Int) (v : Value) (es : List (Int × Int)) (w : World) (hr : Edges w w.heap.size v es) (hl : es.length ≤ 1048576) :
  Calls Tryz.prog 166 #[.int .i64 n, v] w (Says w (isG n es)) := by
 obtain ⟨A, c, rfl, _, hcell⟩ := hr
 have Hcell := hid hcell
 clear hcell
 have Hbad := hid (fun k => @isG_bad n es k)
 have hl3 : (es.length : Int) ≤ 1048576 := by omega
 go_enter Tryz.func166, Tryz.ntmps166
 go_wp2
 go_loopw [5] (fun vk wr => ∃ k : Nat, vk = .int .i64 k ∧ k ≤ es.length ∧ Below w.heap.size w wr ∧ Za7 n es k) (fun vk _ => es.length - (intOf vk).toNat)
 case atStart => exact ⟨0, rfl, Nat.zero_le _, Below.refl _ _, fun j hj => absurd hj (by omega)⟩
 case round =>
  obtain ⟨k, rfl, hk, hwr, hok⟩ := hrel
  have Hwr := hid hwr
  clear hwr
  have Hok := hid hok
  clear hok
  by_cases hlt : k < es.length
  ·obtain ⟨ad, hA, hab, h1, h2⟩ := Hcell.out k hlt
   subst hA
   have g1 : wr.cell? (ad.add (k * 2)) = some (.int .i64 (es.getD k (0, 0)).1) := ((Hwr.out).cell (by rw [Z2_]; exact hab)).trans h1
   have g2 : wr.cell? ⟨(ad.add (k * 2)).block, (ad.add (k * 2)).off + 1, none⟩ = some (.int .i64 (es.getD k (0, 0)).2) := ((Hwr.out).cell (by show (ad.add (k * 2)).block < _; rw [Z2_]; exact hab)).trans h2
   have Hno := hid (Hbad.out k hlt)
   have Hyes := hid (Zx0 (n := n) (es := es) (k := k) Hok.out)
   clear h1 h2 Hbad Hcell
   have hlt' : (k : Int) < (es.length : Int) := by omega
   have He : Hid (okE n (es.getD k (0, 0)) = decide (0 ≤ (es.getD k (0, 0)).1 ∧ (es.getD k (0, 0)).1 < n ∧ 0 ≤ (es.getD k (0, 0)).2 ∧ (es.getD k (0, 0)).2 < n)) := rfl
   generalize (es.getD k (0, 0)).1 = x at *
   generalize (es.getD k (0, 0)).2 = y at *
   by_cases hb : 0 ≤ x ∧ x < n ∧ 0 ≤ y ∧ y < n
   ·obtain ⟨hx1, hx2, hy1, hy2⟩ := hb
    have Hx : Hid (okE n (es.getD k (0, 0)) = true) := by
     show okE n (es.getD k (0, 0)) = true
     rw [He.out]; simp [hx1, hx2, hy1, hy2]
    go_wp2
    go_quiet (fail)
    go_wp2
    go_roundw
    case rel => exact ⟨k + 1, by go_num, by omega, Y0_ (Hwr.out) _, Hyes.out Hx.out⟩
    case measure => simp [intOf]; omega
   ·have Hx : Hid (okE n (es.getD k (0, 0)) = false) := by
     show okE n (es.getD k (0, 0)) = false
     rw [He.out, decide_eq_false_iff_not]
     exact hb
    have hb' : x < 0 ∨ (0 ≤ x ∧ y < 0) ∨ (0 ≤ x ∧ 0 ≤ y ∧ n ≤ x) ∨ (0 ≤ x ∧ 0 ≤ y ∧ x < n ∧ n ≤ y) := by omega
    clear hb
    rcases hb' with h1 | ⟨h1, h2⟩ | ⟨h1, h2, h3⟩ | ⟨h1, h2, h3, h4⟩
    all_goals
     go_wp2
     go_quiet (fail)
     go_wp2
     go_ret
     exact Y8_ (Hno.out Hx.out) rfl (Y0_ (Hwr.out) _)
  ·have hke : k = es.length := by omega
   have Hsz := hid (Xe9 hke Hok.out)
   subst hke
   clear Hbad Hok
   by_cases h1 : 1 ≤ n
   ·by_cases h2 : n ≤ 64
    ·by_cases h3 : (es.length : Int) ≤ 4096
     ·have Hb : Hid (sizeB n es = true) := by
       show sizeB n es = true
       unfold sizeB
       exact decide_eq_true ⟨h1, h2, by omega⟩
      go_wp2
      go_ret
      exact Y8_ (Hsz.out.trans Hb.out) rfl Hwr.out
     ·have Hb : Hid (sizeB n es = false) := by
       show sizeB n es = false
       unfold sizeB
       exact decide_eq_false (fun h => h3 (by omega))
      have h3' : 4096 < (es.length : Int) := by omega
      go_wp2
      go_ret
      exact Y8_ (Hsz.out.trans Hb.out) rfl Hwr.out
    ·have Hb : Hid (sizeB n es = false) := by
      show sizeB n es = false
      unfold sizeB
      exact decide_eq_false (fun h => h2 (by omega))
     have h2' : 64 < n := by omega
     go_wp2
     go_ret
     exact Y8_ (Hsz.out.trans Hb.out) rfl Hwr.out
   ·have Hb : Hid (sizeB n es = false) := by
     show sizeB n es = false
     unfold sizeB
     exact decide_eq_false (fun h => h1 (by omega))
    have h1' : n < 1 := by omega
    go_wp2
    go_ret
    exact Y8_ (Hsz.out.trans Hb.out) rfl Hwr.out
theorem Zu7 (n : Int) (v : Value) (es : List (Int × Int)) (w : World) (hr : Edges w w.heap.size v es) (hl : es.length ≤ 1048576) {b : Bool} (hb : isG n es = b) :
  Calls Tryz.prog 166 #[.int .i64 n, v] w (Says w b) := by
 subst hb
 exact Zn5 n v es w hr hl
open Go.RowKit
def J3_ (ns : List (Nat × Nat)) (f : Nat → Nat) (i : Nat) : Nat → Nat := (ns.take i).foldl stepF f
theorem Zq8 {ns : List (Nat × Nat)} {f : Nat → Nat} {i : Nat} (hi : i < ns.length) : J3_ ns f (i + 1) = stepF (J3_ ns f i) (ns.getD i (0, 0)) := by
 unfold J3_
 rw [List.take_succ_eq_append_getElem hi, List.foldl_append]
 simp [List.getD, hi]
theorem Zg2 (m : Nat) (v : Value) (ns : List (Nat × Nat)) (w : World) (hr : Edges w w.heap.size v (castE ns)) (h1 : 1 ≤ m) (h2 : m ≤ 64) (h3 : ns.length ≤ 4096) (h4 : Lies m ns) :
  Calls Tryz.prog 146 #[.int .i64 m, v] w (Zx1 w m (compF ns)) := by
 have Hr := hid hr
 have Hg := hid (Xi1 h1 h2 h3 h4)
 have Hlies := hid h4
 have hl : (castE ns).length ≤ 1048576 := by rw [X1_]; omega
 obtain ⟨A, c, hv, _, hcell⟩ := hr
 rw [X1_] at hv hcell
 subst hv
 have Hcell := hid hcell
 clear hcell h4
 have h2' : (m : Int) ≤ 64 := by omega
 have h1' : 1 ≤ (m : Int) := by omega
 have h3' : (ns.length : Int) ≤ 4096 := by omega
 have hmk := fun W => run_make_row' 26 3 (.int .i64 0) 8 Tryz.underlying26 info3 rfl .i64 .i64 m (by omega) (by omega) W
 go_enter Tryz.func146, Tryz.ntmps146
 go_wp2_with fail
 refine (Zu7 m _ (castE ns) w Hr.out hl Hg.out).mono ?_
 rintro e w1 ⟨rfl, hb1⟩
 obtain ⟨g, hg⟩ : ∃ g, g = w1.heap.size := ⟨_, rfl⟩
 have Hgs : Hid (w.heap.size ≤ g) := by
  show _ ≤ _
  rw [hg]; exact hb1.size
 have Hlab0 : Hid (Labels (w1.alloc (.cells (madeCells #[.int .i64 0] m) 3)) g m (fun j => if j < 0 then j else 0)) := by
  show Labels _ _ _ _
  rw [hg]
  exact World.rowIs.congr (World.rowIs_made w1 (.int .i64 0) m 3) fun i _ => by simp
 have Hb1 : Hid (Below w.heap.size w (w1.alloc (.cells (madeCells #[.int .i64 0] m) 3))) := hb1.alloc hb1.size _
 clear hb1
 go_wp2
 rw [← hg]
 clear hg hmk
 go_loopw [7] (fun vk wr => ∃ k : Nat, vk = .int .i64 k ∧ k ≤ m ∧ Labels wr g m (fun j => if j < k then j else 0) ∧ Below w.heap.size w wr) (fun vk _ => m - (intOf vk).toNat)
 case atStart => exact ⟨0, rfl, Nat.zero_le _, Hlab0.out, Hb1.out⟩
 case round =>
  obtain ⟨k, rfl, hk, hlab, hbr⟩ := hrel
  have Hlab := hid hlab
  have Hbr := hid hbr
  clear hlab hbr
  by_cases hlt : k < m
  ·have hc : wr.cell? ⟨g, k, none⟩ = some (.int .i64 0) := by
    have := Hlab.out.cell hlt
    simpa using this
   have hfz : wr.frozen? ⟨g, k, none⟩ = false := Hlab.out.frozen k
   go_wp2
   go_roundw
   case rel =>
    refine ⟨k + 1, by go_num, by omega, (Hlab.out.set k k).congr fun i hi => ?_, Hbr.out.setCell Hgs.out _⟩
    by_cases hik : i = k
    ·simp [hik]
    ·by_cases hlt' : i < k
     ·simp [hik, hlt', show i < k + 1 by omega]
     ·simp [hik, hlt', show ¬ i < k + 1 by omega]
   case measure => simp [intOf]; omega
  ·have hke : k = m := by omega
   have Hlab2 := hid (Hlab.out.congr (f' := V9_ ns 0) (fun i hi => by simp [V9_, show i < k by omega]))
   clear Hlab
   go_wp2
   go_loopw [8] (fun vk wr => ∃ k : Nat, vk = .int .i64 k ∧ k ≤ m ∧ Labels wr g m (V9_ ns k) ∧ Below w.heap.size w wr) (fun vk _ => m - (intOf vk).toNat)
   case atStart => exact ⟨0, rfl, Nat.zero_le _, Hlab2.out, Hbr.out⟩
   case round =>
    clear Hlab2 Hbr hke hlt hk
    obtain ⟨k, rfl, hk, hlab, hbr⟩ := hrel
    have Hlab := hid hlab
    have Hbr := hid hbr
    clear hlab hbr
    by_cases hlt : k < m
    ·go_wp2
     go_loopw [9] (fun vi wr => ∃ i : Nat, vi = .int .i64 i ∧ i ≤ ns.length ∧ Labels wr g m (J3_ ns (V9_ ns k) i) ∧ Below w.heap.size w wr) (fun vi _ => ns.length - (intOf vi).toNat)
     case atStart => exact ⟨0, rfl, Nat.zero_le _, Hlab.out, Hbr.out⟩
     case round =>
      clear Hlab Hbr
      obtain ⟨i, rfl, hi, hlab, hbr⟩ := hrel
      have Hlab := hid hlab
      have Hbr := hid hbr
      clear hlab hbr
      by_cases hil : i < ns.length
      ·obtain ⟨ad, hA, hab, q1, q2⟩ := Hcell.out i hil
       subst hA
       rw [G2_] at q1 q2
       simp only at q1 q2
       have g1 := (Hbr.out.cell (p := ad.add (i * 2)) (by rw [Z2_]; exact hab)).trans q1
       have g2 := (Hbr.out.cell (p := ⟨(ad.add (i * 2)).block, (ad.add (i * 2)).off + 1, none⟩) (by show (ad.add (i * 2)).block < _; rw [Z2_]; exact hab)).trans q2
       clear q1 q2 Hcell
       have hlie := Zk6 Hlies.out hil
       have Hstep := hid (Zq8 (f := V9_ ns k) hil)
       obtain ⟨⟨x, y⟩, hxy⟩ : ∃ e, e = ns.getD i (0, 0) := ⟨_, rfl⟩
       rw [← hxy] at g1 g2 hlie Hstep
       clear hxy
       simp only at g1 g2 hlie
       obtain ⟨hx, hy⟩ := hlie
       have c1 := Hlab.out.cell hx
       have c2 := Hlab.out.cell hy
       have f1 := Hlab.out.frozen x
       have f2 := Hlab.out.frozen y
       have hx' : (x : Int) < m := by omega
       have hy' : (y : Int) < m := by omega
       have hil' : (i : Int) < (ns.length : Int) := by omega
       obtain ⟨px, hpx⟩ : ∃ p, p = J3_ ns (V9_ ns k) i x := ⟨_, rfl⟩
       obtain ⟨py, hpy⟩ : ∃ p, p = J3_ ns (V9_ ns k) i y := ⟨_, rfl⟩
       rw [← hpx] at c1
       rw [← hpy] at c2
       obtain ⟨mn, hmn⟩ : ∃ mn, mn = min px py := ⟨_, rfl⟩
       have Hst : Hid (J3_ ns (V9_ ns k) (i + 1) = fun j => if j = y then mn else if j = x then mn else J3_ ns (V9_ ns k) i j) := by
        show _ = _
        rw [Hstep.out, hmn, hpx, hpy]
        rfl
       clear hpx hpy
       have hcase : (mn = px ∧ px ≤ py) ∨ (mn = py ∧ py < px) := by omega
       clear hmn
       have Hset := hid (fun W (h : Labels W g m (J3_ ns (V9_ ns k) i)) => (h.set x mn).set y mn)
       go_wp2
       go_quiet (fail)
       go_wp2
       rcases hcase with ⟨rfl, hle⟩ | ⟨rfl, hle⟩
       all_goals
        go_quiet (fail)
        generalize hW : wr.drewN _ = W
        have hlw : Labels W g m (J3_ ns (V9_ ns k) i) := by rw [← hW]; exact Hlab.out
        have hbw : Below w.heap.size w W := by rw [← hW]; exact Y0_ Hbr.out _
        clear hW
        have d1 := hlw.cell hx
        have e1 := hlw.frozen x
        have hl2 := hlw.set x mn
        have d2 := hlw.cell hy
        have e2 := hlw.frozen y
        have hl3 := hl2.set y mn
        have Hl3 := hid (hl3.congr (f' := J3_ ns (V9_ ns k) (i + 1)) (fun j _ => by rw [Hst.out]))
        have Hbw := hid hbw
        clear hlw hl2 hl3 hbw
        by_cases hxy : x = y
        ·subst hxy
         go_wp2
         go_roundw
         case rel => exact ⟨i + 1, by go_num, by omega, Hl3.out, ((Y0_ Hbw.out _).setCell Hgs.out _).setCell Hgs.out _⟩
         case measure => simp [intOf]; omega
        ·have hyx : ¬ y = x := fun h => hxy h.symm
         go_wp2
         go_roundw
         case rel => exact ⟨i + 1, by go_num, by omega, Hl3.out, ((Y0_ Hbw.out _).setCell Hgs.out _).setCell Hgs.out _⟩
         case measure => simp [intOf]; omega
      ·have hie : i = ns.length := by omega
       have Hl2 := hid (Hlab.out.congr (f' := V9_ ns (k + 1)) (fun j _ => by unfold J3_; rw [hie, List.take_length]; rfl))
       go_wp2
       go_roundw
       case rel => exact ⟨k + 1, by go_num, by omega, Hl2.out, Hbr.out⟩
       case measure => simp [intOf]; omega
    ·have hke : k = m := by omega
     have Hfin := hid (Hlab.out.congr (f' := compF ns) (fun j hj => by rw [hke]; exact Zr8 Hlies.out j hj))
     go_wp2
     go_ret2
     exact ⟨g, rfl, Hfin.out, Hgs.out, Hbr.out⟩
open Go.RowKit
theorem Fam.push {w : World} {B : Nat} {vs : List Value} {pp : List (List Int)} (h : Fam w B vs pp) {u : Value} {q : List Int} (ho : w.ownsRow B 3 1 u q.length (ints q)) (hd : ∀ v ∈ vs, v.ownBlock = none ∨ v.ownBlock ≠ u.ownBlock) : Fam w B (vs ++ [u]) (pp ++ [q]) := by
 have hlast : ∀ (i : Nat) (v : Value), ¬ i < vs.length → (vs ++ [u])[i]? = some v → i = vs.length ∧ v = u := by
  intro i v hi hv
  have hi2 : i = vs.length := by
   have := (List.getElem?_eq_some_iff.1 hv).1
   simp at this
   omega
  subst hi2
  rw [List.getElem?_append_right (Nat.le_refl _)] at hv
  simp at hv
  exact ⟨rfl, hv.symm⟩
 refine ⟨by simp [h.1], fun i v p hv hp => ?_, fun i j v z hv hz hij => ?_⟩
 ·by_cases hi : i < vs.length
  ·rw [List.getElem?_append_left hi] at hv
   rw [List.getElem?_append_left (by rw [← h.1]; exact hi)] at hp
   exact h.2.1 i v p hv hp
  ·obtain ⟨rfl, rfl⟩ := hlast i v hi hv
   rw [h.1, List.getElem?_append_right (Nat.le_refl _)] at hp
   simp at hp
   subst hp
   exact ho
 ·by_cases hi : i < vs.length
  ·rw [List.getElem?_append_left hi] at hv
   by_cases hj : j < vs.length
   ·rw [List.getElem?_append_left hj] at hz
    exact h.2.2 i j v z hv hz hij
   ·obtain ⟨rfl, rfl⟩ := hlast j z hj hz
    exact hd v (List.mem_of_getElem? hv)
  ·obtain ⟨rfl, rfl⟩ := hlast i v hi hv
   by_cases hj : j < vs.length
   ·rw [List.getElem?_append_left hj] at hz
    rcases hd z (List.mem_of_getElem? hz) with h0 | h0
    ·rcases hb : v.ownBlock with _ | k
     ·exact .inl rfl
     ·right
      rw [h0]
      simp
    ·exact .inr fun e => h0 e.symm
   ·have := hlast j z hj hz
    omega
theorem Fam.lt {w : World} {B : Nat} {vs : List Value} {pp : List (List Int)} (h : Fam w B vs pp) {v : Value} (hv : v ∈ vs) {k : Nat} (hk : v.ownBlock = some k) : k < w.heap.size := by
 obtain ⟨i, hi, rfl⟩ := List.mem_iff_getElem.1 hv
 have hip : i < pp.length := by rw [← h.1]; exact hi
 exact ((h.2.1 i _ _ (List.getElem?_eq_getElem hi) (List.getElem?_eq_getElem hip)).lt k hk).2
theorem Fam.outer {w w' : World} {B : Nat} {vs : List Value} {pp : List (List Int)} (h : Fam w B vs pp) {vo : Value} {b n : Nat} {xs : List Value} (ho : w.ownsRow b 26 1 vo n xs) (hg : w.grownBy w' vo.ownBlock) : Fam w' B vs pp := by
 refine h.kept hg ?_
 intro v hv
 obtain ⟨i, hi, rfl⟩ := List.mem_iff_getElem.1 hv
 have hip : i < pp.length := by rw [← h.1]; exact hi
 exact T2_ (h.2.1 i _ _ (List.getElem?_eq_getElem hi) (List.getElem?_eq_getElem hip)) ho (by decide)
def C2_ (m r : Nat) (f : Nat → Nat) : List (List Nat) := (B6_ r f).map (Y7_ m f)
theorem Zu8 {m r : Nat} {f : Nat → Nat} (h : f r = r) : C2_ m (r + 1) f = C2_ m r f ++ [Y7_ m f r] := by
 unfold C2_
 rw [H2_, if_pos h, List.map_append]
 rfl
theorem Yg8 {m r : Nat} {f : Nat → Nat} (h : f r ≠ r) : C2_ m (r + 1) f = C2_ m r f := by
 unfold C2_
 rw [H2_, if_neg h, List.append_nil]
theorem Zq9 (m r : Nat) (f : Nat → Nat) : (C2_ m r f).length ≤ r := by
 have h1 : (C2_ m r f).length = cnt (rootB f) r := by simp [C2_, B6_, cnt]
 rw [h1]
 exact A1_ _ _
theorem Zg3 (m : Nat) (v : Value) (ns : List (Nat × Nat)) (w : World) (hr : Edges w w.heap.size v (castE ns)) (h1 : 1 ≤ m) (h2 : m ≤ 64) (h3 : ns.length ≤ 4096) (h4 : Lies m ns) :
  Calls Tryz.prog 125 #[.int .i64 m, v] w (Zk7 w (castP (A8_ m (compF ns)))) := by
 have Hr := hid hr
 have Hc := hid (Zg2 m v ns w hr h1 h2 h3 h4)
 have h2' : (m : Int) ≤ 64 := by omega
 have h1' : 1 ≤ (m : Int) := by omega
 obtain ⟨A, c, rfl, _⟩ := hr
 clear h4 h3
 go_enter Tryz.func125, Tryz.ntmps125
 go_wp2_with fail
 refine Hc.out.mono ?_
 rintro e w1 ⟨g, rfl, hlab, hg, hb1⟩
 generalize compF ns = f at *
 have Hlab := hid hlab
 clear Hc hlab Hr
 have hgl : g < w1.heap.size := World.rowIs.lt Hlab.out
 obtain ⟨mb, hmb⟩ : ∃ mb, mb = w1.heap.size := ⟨_, rfl⟩
 have Hown0 : Hid ((w1.alloc (.cells #[] 26)).ownsRow mb 26 1 (.slice (some ⟨mb, 0, none⟩) 0 0) 0 []) := by
  show World.ownsRow _ _ _ _ _ _ _
  rw [hmb]
  exact World.ownsRow_made w1 #[] 0 (Nat.le_refl _) (by unfold maxLen; omega) rfl
 have Hbm : Hid (Below mb w1 (w1.alloc (.cells #[] 26))) := by
  show Below _ _ _
  rw [hmb]
  exact (Below.refl _ w1).alloc (Nat.le_refl _) _
 have Hsz : Hid (mb ≤ (w1.alloc (.cells #[] 26)).heap.size) := by
  show _ ≤ _
  rw [hmb]; simp
 have Hmbw : Hid (w.heap.size ≤ mb) := by
  show _ ≤ _
  rw [hmb]; exact hb1.size
 have hgm : g < mb := by rw [hmb]; exact hgl
 have Hb1 := hid hb1
 clear hb1 hgl
 go_wp2
 rw [← hmb]
 clear hmb
 go_loopw [8, 9] (fun vo vr wr => ∃ (r : Nat) (vs : List Value), vr = .int .i64 r ∧ r ≤ m ∧ wr.ownsRow mb 26 1 vo vs.length vs ∧ Fam wr mb vs (castP (C2_ m r f)) ∧ Below mb w1 wr ∧ mb ≤ wr.heap.size) (fun _ vr _ => m - (intOf vr).toNat)
 case atStart => exact ⟨0, [], rfl, Nat.zero_le _, Hown0.out, Zp1 _ _, Hbm.out, Hsz.out⟩
 case round =>
  obtain ⟨r, vs, rfl, hr, hown, hfam, hbr, hsr⟩ := hrel
  clear Hown0 Hbm Hsz
  obtain ⟨vA, vc, rfl⟩ := J1_ hown
  have Hown := hid hown
  have Hfam := hid hfam
  have Hbr := hid hbr
  clear hown hfam hbr
  have hvl : vs.length ≤ 64 := by
   rw [Hfam.out.1, A3_]
   have := Zq9 m r f
   omega
  by_cases hlt : r < m
  ·have hc : wr.cell? ⟨g, r, none⟩ = some (.int .i64 (f r : Int)) := (Hbr.out.cell (p := ⟨g, r, none⟩) hgm).trans (Hlab.out.cell hlt)
   obtain ⟨x, hxe⟩ : ∃ x, x = f r := ⟨_, rfl⟩
   rw [← hxe] at hc
   have Hxe := hid hxe
   clear hxe
   have hlt' : (r : Int) < m := by omega
   by_cases hroot : x = r
   ·have Hroot := hid hroot
    have hkk : ((x : Int) != (r : Int)) = false := by simp [hroot]
    clear hroot
    obtain ⟨w0, rfl⟩ : ∃ w0, w0 = wr := ⟨_, rfl⟩
    have Hp0 : Hid ((w0.alloc (.cells #[] 3)).ownsRow w0.heap.size 3 1 (.slice (some ⟨w0.heap.size, 0, none⟩) 0 0) 0 []) := World.ownsRow_made w0 #[] 0 (Nat.le_refl _) (by unfold maxLen; omega) rfl
    have Hb0 : Hid (Below w0.heap.size w0 (w0.alloc (.cells #[] 3))) := (Below.refl _ w0).alloc (Nat.le_refl _) _
    have Hs0 : Hid (w0.heap.size ≤ (w0.alloc (.cells #[] 3)).heap.size) := by
     show _ ≤ _
     simp
    go_wp2
    go_loopw [10, 11] (fun vp vv wr => ∃ (k : Nat), vv = .int .i64 k ∧ k ≤ m ∧ wr.ownsRow w0.heap.size 3 1 vp (castL (Y7_ k f r)).length (ints (castL (Y7_ k f r))) ∧ Below w0.heap.size w0 wr ∧ w0.heap.size ≤ wr.heap.size) (fun _ vv _ => m - (intOf vv).toNat)
    case atStart => exact ⟨0, rfl, Nat.zero_le _, Hp0.out, Hb0.out, Hs0.out⟩
    case round =>
     obtain ⟨k, rfl, hk, hpo, hbq, hsq⟩ := hrel
     clear Hp0 Hb0 Hs0
     obtain ⟨pA, pc, rfl⟩ := J1_ hpo
     have Hpo := hid hpo
     have Hbq := hid hbq
     clear hpo hbq
     have hpl : (castL (Y7_ k f r)).length ≤ 64 := by
      rw [T7_]
      have := O2_ k f r
      omega
     by_cases hlk : k < m
     ·have hlk' : (k : Int) < m := by omega
      have hck : wr.cell? ⟨g, k, none⟩ = some (.int .i64 (f k : Int)) := (Hbq.out.cell (p := ⟨g, k, none⟩) (by show g < _; omega)).trans ((Hbr.out.cell (p := ⟨g, k, none⟩) hgm).trans (Hlab.out.cell hlk))
      have Hsucc := hid (M5_ k f r)
      generalize f k = y at hck Hsucc
      by_cases hyr : y = r
      ·have hyb : ((y : Int) == (r : Int)) = true := by simp [hyr]
       have Hn : Hid (castL (Y7_ (k + 1) f r) = castL (Y7_ k f r) ++ [(k : Int)]) := by
        show _ = _
        rw [Hsucc.out, if_pos hyr, Za8]
       clear hyr Hsucc
       generalize castL (Y7_ k f r) = ps at *
       obtain ⟨xs, hxs⟩ : ∃ xs, xs = ints ps := ⟨_, rfl⟩
       have hxl : xs.length = ps.length := by rw [hxs, A0_]
       have Hxs := hid hxs
       have Hpo2 : Hid (wr.ownsRow w0.heap.size 3 1 (.slice pA ps.length pc) xs.length xs) := by
        show World.ownsRow _ _ _ _ _ _ _
        rw [hxl, hxs]
        exact Hpo.out
       have Hxl := hid hxl
       have hxl64 : xs.length ≤ 64 := by rw [hxl]; exact hpl
       clear hxs hxl
       have hcell := (Blk.new wr 3 #[.int .i64 (k : Int)]).cell 0
       simp only [List.getElem?_toArray, List.getElem?_cons_zero] at hcell
       have Hcell := hid hcell
       clear hcell
       have hsz3 : (wr.alloc (.cells #[.int .i64 (k : Int)] 3)).heap.size = wr.heap.size + 1 := by simp
       have Hsz3 := hid hsz3
       clear hsz3
       go_wp2_with (at_builtin; refine V5_ rfl _ _ 26 3 (.int .i64 0) 8 rfl Tryz.underlying26 info3 rfl w0.heap.size _ (.int .i64 (k : Int)) xs rfl (Hpo2.out.alloc _) wr.heap.size rfl Hcell.out rfl (by omega) (by omega) (by rw [Hsz3.out]; omega) ?_)
       intro u5 w5 hin5 hgr5 _
       have Hin5 : Hid (w5.ownsRow w0.heap.size 3 1 u5 (castL (Y7_ (k + 1) f r)).length (ints (castL (Y7_ (k + 1) f r)))) := by
        show World.ownsRow _ _ _ _ _ _ _
        rw [Hn.out, V6_, ← Hxs.out, List.length_append, ← Hxl.out]
        exact hin5
       have Hb5 := hid ((Hbq.out.alloc hsq (.cells #[.int .i64 (k : Int)] 3)).grown hgr5 (by rw [Hsz3.out]; omega) (fun i hi => (Hpo2.out.lt i hi).1))
       have Hs5 : Hid (w0.heap.size ≤ w5.heap.size) := Nat.le_trans (by rw [Hsz3.out]; omega) hgr5.size
       clear hin5 hgr5
       go_wp2
       go_roundw
       case rel => exact ⟨k + 1, by go_num, by omega, Hin5.out, Hb5.out, Hs5.out⟩
       case measure => simp [intOf]; omega
      ·have hyb : ((y : Int) == (r : Int)) = false := by rw [beq_eq_false_iff_ne]; omega
       have Hn : Hid (Y7_ (k + 1) f r = Y7_ k f r) := by
        show _ = _
        rw [Hsucc.out, if_neg hyr, List.append_nil]
       clear hyr Hsucc
       go_wp2
       go_roundw
       case rel => exact ⟨k + 1, by go_num, by omega, by rw [Hn.out]; exact Hpo.out, Hbq.out, hsq⟩
       case measure => simp [intOf]; omega
     ·obtain rfl : m = k := by omega
      have Hown2 := hid (Hown.out.kept (Z9_ Hbq.out none) (by
       rcases (Value.slice vA vs.length vc).ownBlock with _ | q
       ·exact .inl rfl
       ·exact .inr (by simp)))
      have Hfam2 := hid (Hfam.out.new (Z9_ Hbq.out none))
      have hcell := (Blk.new wr 26 #[.slice pA (castL (Y7_ m f r)).length pc]).cell 0
      simp only [List.getElem?_toArray, List.getElem?_cons_zero] at hcell
      have Hcell := hid hcell
      clear hcell
      have hsz3 : (wr.alloc (.cells #[.slice pA (castL (Y7_ m f r)).length pc] 26)).heap.size = wr.heap.size + 1 := by simp
      have Hsz3 := hid hsz3
      clear hsz3
      go_wp2_with (at_builtin; refine V5_ rfl _ _ 22 26 (.slice none 0 0) 24 rfl Tryz.underlying22 Yj1 rfl mb _ (.slice pA (castL (Y7_ m f r)).length pc) vs rfl (Hown2.out.alloc _) wr.heap.size rfl Hcell.out rfl (by omega) (by omega) (by rw [Hsz3.out]; omega) ?_)
      intro vo5 w5 hown5 hgr5 _
      have hbr2 : Below mb w1 wr := Hbr.out.trans (Hbq.out.mono hsr)
      have hsr2 : mb ≤ wr.heap.size := Nat.le_trans hsr hsq
      have Hown5 : Hid (w5.ownsRow mb 26 1 vo5 (vs ++ [Value.slice pA (castL (Y7_ m f r)).length pc]).length (vs ++ [Value.slice pA (castL (Y7_ m f r)).length pc])) := by
       show World.ownsRow _ _ _ _ _ _ _
       rw [List.length_append]
       exact hown5
      have hpoB : wr.ownsRow mb 3 1 (.slice pA (castL (Y7_ m f r)).length pc) (castL (Y7_ m f r)).length (ints (castL (Y7_ m f r))) := ⟨Hpo.out.1, by
       rcases Hpo.out.2 with h | ⟨g', cap, cur, h1, h2, h3⟩
       ·exact .inl h
       ·exact .inr ⟨g', cap, cur, h1, Nat.le_trans hsr h2, h3⟩⟩
      have Hfam5 : Hid (Fam w5 mb (vs ++ [Value.slice pA (castL (Y7_ m f r)).length pc]) (castP (C2_ m (r + 1) f))) := by
       show Fam _ _ _ _
       rw [Zu8 (by rw [← Hxe.out]; exact Hroot.out)]
       have hcp : castP (C2_ m r f ++ [Y7_ m f r]) = castP (C2_ m r f) ++ [castL (Y7_ m f r)] := by simp [castP]
       rw [hcp]
       refine Fam.outer (w := wr.alloc (.cells #[.slice pA (castL (Y7_ m f r)).length pc] 26)) ?_ (Hown2.out.alloc _) hgr5
       refine Fam.new (w := wr) ?_ (World.grownBy_alloc _ _ none)
       refine Hfam2.out.push hpoB ?_
       intro v hv
       rcases hb : v.ownBlock with _ | q
       ·exact .inl rfl
       ·right
        have h1 := Hfam.out.lt hv hb
        intro he
        have h2 := (Hpo.out.lt q he.symm).1
        omega
      have Hb5 := hid ((hbr2.alloc hsr2 (.cells #[.slice pA (castL (Y7_ m f r)).length pc] 26)).grown hgr5 (by rw [Hsz3.out]; omega) (fun i hi => (Hown2.out.lt i hi).1))
      have Hs5 : Hid (mb ≤ w5.heap.size) := Nat.le_trans (by rw [Hsz3.out]; omega) hgr5.size
      clear hown5 hgr5 hbr2 hsr2 hpoB
      go_wp2
      go_roundw
      case rel => exact ⟨r + 1, _, by go_num, by omega, Hown5.out, Hfam5.out, Hb5.out, Hs5.out⟩
      case measure => simp [intOf]; omega
   ·have Hroot := hid hroot
    have hkk : ((x : Int) != (r : Int)) = true := by rw [bne_iff_ne]; omega
    clear hroot
    go_wp2
    go_roundw
    case rel => exact ⟨r + 1, vs, by go_num, by omega, Hown.out, by rw [Yg8 (by rw [← Hxe.out]; exact Hroot.out)]; exact Hfam.out, Hbr.out, hsr⟩
    case measure => simp [intOf]; omega
  ·have hke : r = m := by omega
   have Hr2 := hid (Hfam.out.rows Hown.out)
   subst hke
   go_wp2
   go_ret2
   refine ⟨_, rfl, Hr2.out, Hb1.out.trans (Hbr.out.mono Hmbw.out)⟩
open Go.RowKit
theorem Zn6 (m : Nat) (v : Value) (ns : List (Nat × Nat)) (w : World) (hr : Edges w w.heap.size v (castE ns)) (h1 : 1 ≤ m) (h2 : m ≤ 64) (h3 : ns.length ≤ 4096) (h4 : Lies m ns) :
  Calls Tryz.prog 103 #[.int .i64 m, v] w (Xi2 w (rankN m ns)) := by
 have Hp := hid (Zg3 m v ns w hr h1 h2 h3 h4)
 have h2' : (m : Int) ≤ 64 := by omega
 have h1' : 1 ≤ (m : Int) := by omega
 obtain ⟨A, c, rfl, _⟩ := hr
 clear h4 h3
 go_enter Tryz.func103, Tryz.ntmps103
 go_wp2_with fail
 refine Hp.out.mono ?_
 rintro e w1 ⟨v1, rfl, hr1, hb1⟩
 obtain ⟨A1, c1, rfl, _⟩ := hr1
 rw [A3_, Q0_]
 have hk := A1_ (rootB (compF ns)) m
 have Hk : Hid ((m : Int) - (cnt (rootB (compF ns)) m : Int) = rankN m ns) := rfl
 generalize cnt (rootB (compF ns)) m = k at *
 have hk' : (k : Int) ≤ m := by omega
 go_wp2
 go_ret
 exact ⟨by rw [← Hk.out]; rfl, hb1⟩
theorem Za0 (m : Nat) (v : Value) (ns : List (Nat × Nat)) (w : World) (hr : Edges w w.heap.size v (castE ns)) (h1 : 1 ≤ m) (h2 : m ≤ 64) (h3 : ns.length ≤ 4096) (h4 : Lies m ns) (b : Bool) (hb : (rankN m ns == (ns.length : Int)) = b) :
  Calls Tryz.prog 75 #[.int .i64 m, v] w (Says w b) := by
 have Hp := hid (Zn6 m v ns w hr h1 h2 h3 h4)
 have Hb := hid hb
 obtain ⟨A, c, hv, _⟩ := hr
 rw [X1_] at hv
 subst hv
 have hl' : (ns.length : Int) ≤ 4096 := by omega
 clear h4 h3 hb
 go_enter Tryz.func75, Tryz.ntmps75
 go_wp2_with fail
 refine Hp.out.mono ?_
 rintro e w1 ⟨rfl, hb1⟩
 generalize rankN m ns = r at *
 go_wp2
 go_ret
 exact ⟨by rw [← Hb.out]; rfl, hb1⟩
end Wp
end Go.Proofs.YtgadbnbhgpehjaaGreatDoor
