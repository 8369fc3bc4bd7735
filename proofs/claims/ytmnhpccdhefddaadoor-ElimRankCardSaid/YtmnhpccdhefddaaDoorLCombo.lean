/- The program's Combo, walked. -/
import Derived.Test.YtmnhpccdhefddaaDoorLBack
import Derived.Maps.OwnIn
import Derived.Sort.MapsRangeIn
import Derived.Maps.RangeWalk
import Derived.Deep.OwnRows
import Derived.Test.YtmnhpccdhefddaaDoorLStill
namespace Go.Proofs.YtmnhpccdhefddaaDoor
open Go.RowKit
attribute [local go_sem] Oper.semAt_some
namespace Wp

/-- What the program answers, plain. -/
def comboI (p rows : Int) (cols : List (List Int)) (goal : List Int) : Option (List Int) := if elimB p rows cols && elimB p rows [goal] then comboL p (fun x => invI x p) cols goal else none
/-- A call tells numbers and true, or nothing and false. -/
def TellsC (w : World) (r : Option (List Int)) (e : Ending) (w' : World) : Prop := ∃ v, e = .returned (.tuple #[v, .bool r.isSome]) ∧ Row w' w'.heap.size v (r.getD []) ∧ Below w.heap.size w w'

set_option maxHeartbeats 8000000 in
set_option maxRecDepth 100000 in
theorem combo_bad (p rows : Int) (v vg : Value) (cols : List (List Int)) (w : World) (hM : Met w) (hr : Rows2 w w.heap.size v cols) (hb : elimB p rows cols = false) :
    Calls Tryd.prog 16 #[.int .i64 p, .int .i64 rows, v, vg] w (TellsC w none) := by
  have Hr := Lib.hid hr
  have HM := Lib.hid hM
  have Hb := Lib.hid hb
  have Hb0 := Lib.hid ((Below.refl w.heap.size w).alloc (Nat.le_refl _) (.cells #[.int .i64 p] 3))
  clear hM hr hb
  refine (callsIn_wide (n := 8)).1 ?_
  refine callsIn_of_wp_marks Tryd.func16 rfl trivial ?_ rfl
  simp only [Tryd.ntmps16, List.size_toArray, List.length_cons, List.length_nil, Nat.reduceAdd, Nat.reduceSub, Array.replicate_succ, Array.replicate_zero, List.push_toArray, List.append_toArray, List.nil_append, List.cons_append]
  refine wpIn_wide.2 ?_
  go_wp2_with fail
  refine (may_is p rows _ cols false Hb.out _ (HM.out.up Hb0.out) (Hr.out.up Hb0.out)).mono ?_
  rintro e w1 ⟨rfl, hb1⟩
  have Hb1 := Lib.hid (below_next Hb0.out (Nat.le_refl _) hb1)
  clear hb1
  go_wp2
  refine ⟨.tuple #[.slice none 0 0, .bool false], ?_, ⟨_, rfl, Row.nil_ _ _, Hb1.out⟩⟩
  simp [results, Tryd.f16, go_sem]

theorem Rows2.lit1 {W : World} {u : Value} {zs : List Int} (h : Row W W.heap.size u zs) : Rows2 (W.alloc (.cells #[u] 26)) (W.alloc (.cells #[u] 26)).heap.size (.slice (some ⟨W.heap.size, 0, none⟩) 1 1) [zs] := by
  refine ⟨_, 1, rfl, ⟨Nat.le_refl _, by decide, fun h => (by cases h)⟩, fun k hk => ⟨⟨W.heap.size, 0, none⟩, u, rfl, by simp, ?_, ?_⟩⟩
  · match k, hk with
    | 0, _ => exact (Blk.new W 26 #[u]).cell 0
  · match k, hk with
    | 0, _ => exact h.upA _

set_option maxHeartbeats 8000000 in
set_option maxRecDepth 100000 in
theorem combo_off (p rows : Int) (v vg : Value) (cols : List (List Int)) (goal : List Int) (w : World) (hM : Met w) (hr : Rows2 w w.heap.size v cols) (hg : Row w w.heap.size vg goal) (hb : elimB p rows cols = true) (hb2 : elimB p rows [goal] = false) :
    Calls Tryd.prog 16 #[.int .i64 p, .int .i64 rows, v, vg] w (TellsC w none) := by
  have Hr := Lib.hid hr
  have Hg := Lib.hid hg
  have HM := Lib.hid hM
  have Hb := Lib.hid hb
  have Hb2 := Lib.hid hb2
  obtain ⟨A, c, rfl, _⟩ := hr
  obtain ⟨Ag, cg, rfl, _⟩ := hg
  have Hb0 := Lib.hid ((Below.refl w.heap.size w).alloc (Nat.le_refl _) (.cells #[.int .i64 p] 3))
  clear hM hb hb2
  refine (callsIn_wide (n := 8)).1 ?_
  refine callsIn_of_wp_marks Tryd.func16 rfl trivial ?_ rfl
  simp only [Tryd.ntmps16, List.size_toArray, List.length_cons, List.length_nil, Nat.reduceAdd, Nat.reduceSub, Array.replicate_succ, Array.replicate_zero, List.push_toArray, List.append_toArray, List.nil_append, List.cons_append]
  refine wpIn_wide.2 ?_
  go_wp2_with fail
  refine (may_is p rows _ cols true Hb.out _ (HM.out.up Hb0.out) (Hr.out.up Hb0.out)).mono ?_
  rintro e w1 ⟨rfl, hb1⟩
  have c0 : w1.cell? ⟨w.heap.size, 0, none⟩ = some (.int .i64 p) := (hb1.cell (p := ⟨w.heap.size, 0, none⟩) (by simp)).trans (by simp [go_sem])
  have Hb1 := Lib.hid (below_next Hb0.out (Nat.le_refl _) hb1)
  have Hl := Lib.hid (Rows2.lit1 (Hg.out.up Hb1.out))
  have Hb2' := Lib.hid (Hb1.out.alloc Hb1.out.size (.cells #[.slice Ag goal.length cg] 26))
  clear hb1
  go_wp2_with fail
  refine (may_is p rows _ [goal] false Hb2.out _ (HM.out.up Hb2'.out) Hl.out).mono ?_
  rintro e w2 ⟨rfl, hb3⟩
  have Hb3 := Lib.hid (below_next Hb2'.out (Nat.le_refl _) hb3)
  clear hb3
  go_wp2
  refine ⟨.tuple #[.slice none 0 0, .bool false], ?_, ⟨_, rfl, Row.nil_ _ _, Hb3.out⟩⟩
  simp [results, Tryd.f16, go_sem]

/-- Numbers in a block. -/
def Nums (w : World) (g n : Nat) (f : Nat → Int) : Prop := w.rowIs g 3 n fun i => .int .i64 (f i)
theorem Nums.congr {w : World} {g n : Nat} {f f' : Nat → Int} (h : Nums w g n f) (e : ∀ i, i < n → f i = f' i) : Nums w g n f' := World.rowIs.congr h fun i hi => by rw [e i hi]
theorem Nums.set {w : World} {g n : Nat} {f : Nat → Int} (h : Nums w g n f) (i : Nat) (v : Int) : Nums (w.setCell ⟨g, i, none⟩ (.int .i64 v)) g n (fun j => if j = i then v else f j) :=
  World.rowIs.congr (World.rowIs.set h i _) fun j _ => by
    by_cases hj : j = i
    · simp only [hj, if_pos]
    · simp only [hj, if_false]
theorem Nums.kept {w w' : World} {g n : Nat} {f : Nat → Int} {row : Option Nat} (h : Nums w g n f) (hg : w.grownBy w' row) (hne : some g ≠ row) : Nums w' g n f := World.rowIs.of_block h (hg.block g (World.rowIs.lt h) hne)
theorem grown_set (W : World) (g i : Nat) (v : Value) : W.grownBy (W.setCell ⟨g, i, none⟩ v) (some g) := only_setCell (World.grownBy.refl _ _) (.inl rfl) v
theorem Nums.row {w : World} {g n : Nat} {f : Nat → Int} (h : Nums w g n f) (hn : n ≤ 1048576) : Row w w.heap.size (.slice (some ⟨g, 0, none⟩) n n) ((List.range n).map f) := by
  refine ⟨_, n, by simp, ⟨by simp, by unfold maxLen; omega, fun e => by cases e⟩, fun k hk => ⟨⟨g, 0, none⟩, rfl, World.rowIs.lt h, ?_⟩⟩
  have hk' : k < n := by simpa using hk
  rw [getD_map_range, if_pos hk']
  have := World.rowIs.cell h hk'
  unfold Addr.add
  by_cases h0 : k = 0
  · subst h0
    simpa using this
  · simpa [h0] using this

/-- A step over a map of integers, in a fence. -/
theorem next_in {F : Fence} {n : Nat} {P : Program} (w : World) {ops : Array Oper} {rest : List Oper} {o : Oper} {a : Act} {Q : Exit → Act → World → Prop} (hg : o.guard = none) (it : Operand) (hop : o.op = Op.next it false) (k e : TypeId) (K : Maps.Keyed P k) (hk : P.underlying k = some (.int .i64)) (he : P.underlying e = some (.int .i64))
    (b r nn : Nat) (D : DataW Unit) (left : Lit → Bool) (cnt : Nat) (hit : a.eval it = .pointer (some ⟨r, 0, none⟩)) (h : w.ranges P k (plainElem P e) b r nn D left cnt)
    (hDone : (∀ kl, left kl = false) → wpListIn F n P ops Q rest (a.put o.dst (.tuple #[.bool false])) w)
    (hMore : ∀ (x c : Int) (w' : World) (cnt' : Nat), left (.int .i64 x) = true → (∀ zd, D.atKey (.int .i64 x) zd = .lit (.int .i64 c)) → w'.ranges P k (plainElem P e) b r nn D (fun z => left z && !z.sameKey (.int .i64 x)) cnt' → cnt' < cnt →
      w.grownBy w' (some r) → w'.heap.size = w.heap.size → (Instr.entry (.pointer (some ⟨r, 0, none⟩))).run P w' = .ok (.tuple #[.int .i64 x, .int .i64 c]) w' → wpListIn F n P ops Q rest (a.put o.dst (.tuple #[.bool true, .int .i64 x, .int .i64 c])) w') :
    wpListIn F n P ops Q (o :: rest) a w :=
  wpListIn_next_ranges w hg it hop k K (plainElem P e) (Value.int .i64) (Value.int .i64) (fun key kl hkey => by obtain ⟨x, rfl, _⟩ := Maps.keyOf_int_inv hk hkey; exact ⟨x, rfl⟩) (fun v y hv => by obtain ⟨c, rfl, _⟩ := plainElem_int_inv he hv; exact ⟨c, rfl⟩)
    b r nn D left cnt hit h (fun _ => hDone) (fun x c kl y w' cnt' hkey hlk hv hat hrg hlt hgr hsz hen => by
      obtain ⟨x', ex, rfl, _⟩ := Maps.keyOf_int_inv hk hkey
      cases ex
      obtain ⟨c', ec, rfl, _⟩ := plainElem_int_inv he hv
      cases ec
      exact hMore x c w' cnt' hlk hat hrg hlt hgr hsz hen)
/-- Where the lines' rows and maps lie, as functions of the line. -/
theorem lines_u {w : World} {B : Nat} {A : Option Addr} {n c : Nat} {ls : List Line} (h : LinesAt w B (.slice A n c) ls) : ∃ (ad : Addr) (Ao : Nat → Option Addr) (Ln Ck M : Nat → Nat),
    (0 < ls.length → A = some ad) ∧ (0 < ls.length → ad.block < B) ∧ LinesU w ad ls (fun k => .slice (Ao k) (Ln k) (Ck k)) M ∧ ∀ k (hk : k < ls.length), M k < B ∧ MapAt w (M k) 64 (ls[k]).by_ := by
  obtain ⟨A', c', hv, _, hk⟩ := h
  injection hv with hA _ _
  subst hA
  by_cases h0 : 0 < ls.length
  · obtain ⟨ad, _, _, hA, hB, _⟩ := hk 0 h0
    subst hA
    have h1 : ∀ k, ∃ t : Option Addr × Nat × Nat × Nat, ∀ hk : k < ls.length, (w.cell? (ad.add (k * 5)) = some (.int .i64 ((ls[k]).place : Int)) ∧ w.cell? ⟨(ad.add (k * 5)).block, (ad.add (k * 5)).off + 1, none⟩ = some (.slice t.1 t.2.1 t.2.2.1) ∧
        w.cell? ⟨(ad.add (k * 5)).block, (ad.add (k * 5)).off + 2, none⟩ = some (.int .i64 ((ls[k]).lead : Int)) ∧ w.cell? ⟨(ad.add (k * 5)).block, (ad.add (k * 5)).off + 3, none⟩ = some (.int .i64 (ls[k]).inv) ∧
        w.cell? ⟨(ad.add (k * 5)).block, (ad.add (k * 5)).off + 4, none⟩ = some (.map (some t.2.2.2))) ∧ t.2.2.2 < B ∧ MapAt w t.2.2.2 64 (ls[k]).by_ := by
      intro k
      by_cases hkl : k < ls.length
      · obtain ⟨ad', u, b, hA', _, q, hr, hb, hm⟩ := hk k hkl
        injection hA' with hA'
        subst hA'
        obtain ⟨Ar, cr, rfl, _⟩ := hr
        exact ⟨(Ar, _, cr, b), fun _ => ⟨q, hb, hm⟩⟩
      · exact ⟨(none, 0, 0, 0), fun h => absurd h hkl⟩
    obtain ⟨t, ht⟩ := Classical.skolem.1 h1
    exact ⟨ad, fun k => (t k).1, fun k => (t k).2.1, fun k => (t k).2.2.1, fun k => (t k).2.2.2, fun _ => rfl, fun _ => hB, fun k hk => (ht k hk).1, fun k hk => (ht k hk).2⟩
  · exact ⟨⟨0, 0, none⟩, fun _ => none, fun _ => 0, fun _ => 0, fun _ => 0, fun h => absurd h h0, fun h => absurd h h0, fun k hk => absurd hk (by omega), fun k hk => absurd hk (by omega)⟩

/-- What so many lines, the last first, have made of the numbers. -/
def backF (p : Int) (ls : List Line) (T0 : List Int) (pre : List (Fin ls.length)) : List Int := pre.foldl (fun T y => backL p (ls[y.1]'y.2) T) T0
theorem backF_snoc (p : Int) (ls : List Line) (T0 : List Int) (pre : List (Fin ls.length)) (x : Fin ls.length) : backF p ls T0 (pre ++ [x]) = backL p (ls[x.1]'x.2) (backF p ls T0 pre) := by simp [backF]
theorem backL_in {p : Int} (hp : 0 < p) {T : List Int} {m : Nat} (l : Line) (h : InR p m T) : InR p m (backL p l T) := by
  refine inR_of_get (by rw [backL_length, h.1]) fun i hi => ?_
  rw [backL_getD (by rw [h.1]; exact hi)]
  split
  · exact h.get hp i
  · exact ⟨Int.emod_nonneg _ (by omega), Int.emod_lt_of_pos _ hp⟩
theorem backF_in {p : Int} (hp : 0 < p) {ls : List Line} {m : Nat} : ∀ {pre : List (Fin ls.length)} {T0 : List Int}, InR p m T0 → InR p m (backF p ls T0 pre)
  | [], _, h => h
  | y :: pre, T0, h => by
    have : backF p ls T0 (y :: pre) = backF p ls (backL p (ls[y.1]'y.2) T0) pre := rfl
    rw [this]
    exact backF_in hp (backL_in hp _ h)

set_option maxHeartbeats 8000000 in
set_option maxRecDepth 100000 in
theorem combo_in (p : Int) (R : Nat) (v vg : Value) (cols : List (List Int)) (goal : List Int) (w : World) (hM : Met w) (hr : Rows2 w w.heap.size v cols) (hg : Row w w.heap.size vg goal) (hpr : prB p = true) (hR : R ≤ 64) (hn : cols.length ≤ 64) (hc : ColsIn p R cols) (hgi : InR p R goal) :
    Calls Tryd.prog 16 #[.int .i64 p, .int .i64 R, v, vg] w (TellsC w (comboL p (fun x => invI x p) cols goal)) := by
  have Hr := Lib.hid hr
  have Hg := Lib.hid hg
  have HM := Lib.hid hM
  have Hb := Lib.hid (elimB_of hpr hR hn hc)
  have Hb2 := Lib.hid (elimB_of hpr hR (by simp) (show ColsIn p R [goal] from fun i hi => by
    have : i = 0 := by simpa using hi
    subst this
    exact hgi))
  have Hlines := Lib.hid (fun w1 (hM1 : Met w1) (hr1 : Rows2 w1 w1.heap.size v cols) => lines_at p R v cols w1 hM1 hpr hr1 hc hR hn)
  change Hid (∀ w1, Met w1 → Rows2 w1 w1.heap.size v cols → Calls Tryd.prog 24 #[.int .i64 p, v] w1 (GivesL w1 (linesI p cols))) at Hlines
  have HL := Lib.hid (linesI_lines hpr hc)
  have hln := linesI_length hpr hc
  obtain ⟨h2, h31, _⟩ := prB_iff.1 hpr
  unfold comboL
  change Calls _ _ _ _ (TellsC w (if 0 ≤ leadI (takeT p (linesI p cols) goal).1 then none else some (timesL p (linesI p cols) cols.length (takeT p (linesI p cols) goal).2)))
  have Htake := Lib.hid (HL.out.take (by omega) hgi)
  have Hgi := Lib.hid hgi
  obtain ⟨r, hre⟩ : ∃ r, r = (if 0 ≤ leadI (takeT p (linesI p cols) goal).1 then none else some (timesL p (linesI p cols) cols.length (takeT p (linesI p cols) goal).2)) := ⟨_, rfl⟩
  rw [← hre]
  have Hre := Lib.hid hre
  clear hre
  generalize linesI p cols = ls at *
  have hls64 : ls.length ≤ 64 := by omega
  obtain ⟨A, c, rfl, _⟩ := hr
  obtain ⟨Ag, cg, rfl, _⟩ := hg
  have hn' : (cols.length : Int) ≤ 64 := by omega
  have Hb0 := Lib.hid ((Below.refl w.heap.size w).alloc (Nat.le_refl _) (.cells #[.int .i64 p] 3))
  clear hM hpr hc hgi
  refine (callsIn_wide (n := 8)).1 ?_
  refine callsIn_of_wp_marks Tryd.func16 rfl trivial ?_ rfl
  simp only [Tryd.ntmps16, List.size_toArray, List.length_cons, List.length_nil, Nat.reduceAdd, Nat.reduceSub, Array.replicate_succ, Array.replicate_zero, List.push_toArray, List.append_toArray, List.nil_append, List.cons_append]
  refine wpIn_wide.2 ?_
  go_wp2_with fail
  refine (may_is p R _ cols true Hb.out _ (HM.out.up Hb0.out) (Hr.out.up Hb0.out)).mono ?_
  rintro e w1 ⟨rfl, hb1⟩
  have c0 : w1.cell? ⟨w.heap.size, 0, none⟩ = some (.int .i64 p) := (hb1.cell (p := ⟨w.heap.size, 0, none⟩) (by simp)).trans (by simp [go_sem])
  have Hs1 : Hid (w.heap.size < w1.heap.size) := by
    have := hb1.size
    show _ < _
    simp at this
    omega
  have Hb1 := Lib.hid (below_next Hb0.out (Nat.le_refl _) hb1)
  have Hl := Lib.hid (Rows2.lit1 (Hg.out.up Hb1.out))
  have Hb2' := Lib.hid (Hb1.out.alloc Hb1.out.size (.cells #[.slice Ag goal.length cg] 26))
  clear hb1
  go_wp2_with fail
  refine (may_is p R _ [goal] true Hb2.out _ (HM.out.up Hb2'.out) Hl.out).mono ?_
  rintro e w2 ⟨rfl, hb3⟩
  have Hb3 := Lib.hid (below_next Hb2'.out (Nat.le_refl _) hb3)
  have Hs2 : Hid (w.heap.size < w2.heap.size) := by
    have h1 := hb3.size
    have h2 := Hs1.out
    show _ < _
    simp at h1
    omega
  have c2 : w2.cell? ⟨w.heap.size, 0, none⟩ = some (.int .i64 p) := by
    refine (hb3.cell (p := ⟨w.heap.size, 0, none⟩) ?_).trans ?_
    · have := Hs1.out
      simp
      omega
    · rw [World.cell?_alloc_lt]
      · exact c0
      · exact Hs1.out
  clear hb3 c0
  go_wp2_with fail
  refine (Hlines.out w2 (HM.out.up Hb3.out) (Hr.out.up Hb3.out)).mono ?_
  rintro e w3 ⟨v3, rfl, hls3, hb4⟩
  have c3 : w3.cell? ⟨w.heap.size, 0, none⟩ = some (.int .i64 p) := (hb4.cell (p := ⟨w.heap.size, 0, none⟩) Hs2.out).trans c2
  have Hs3 : Hid (w.heap.size < w3.heap.size) := Nat.lt_of_lt_of_le Hs2.out hb4.size
  have Hb4 := Lib.hid (below_next Hb3.out (Nat.le_refl _) hb4)
  have Hls3 := Lib.hid hls3
  obtain ⟨A3, cc3, rfl, hcl3, hcell3⟩ := hls3
  have Hcell3 := Lib.hid hcell3
  clear hb4 c2 hcell3
  go_wp2_with fail
  refine (take_any p R _ _ ls goal _ h2 h31 Hls3.out HL.out.ech (Hg.out.up Hb4.out) Hgi.out hR hls64 (fun l hl => Nat.lt_of_lt_of_le (HL.out.lt hl) hn)).mono ?_
  rintro e w4 ⟨u1, b1, rfl, hown1, hb1, hmap1, hbel1⟩
  have c4 : w4.cell? ⟨w.heap.size, 0, none⟩ = some (.int .i64 p) := (hbel1.cell (p := ⟨w.heap.size, 0, none⟩) Hs3.out).trans c3
  have Hs4 : Hid (w.heap.size < w4.heap.size) := Nat.lt_of_lt_of_le Hs3.out hbel1.size
  have Hb5 := Lib.hid (below_next Hb4.out (Nat.le_refl _) hbel1)
  generalize hT : takeT p ls goal = T at *
  obtain ⟨lf, f⟩ := T
  simp only at hown1 hmap1 Hre
  have hTrow := Htake.out.row
  simp only at hTrow
  have Hrow1 := Lib.hid (Row.of_own hown1 rfl)
  have Hmap1 := Lib.hid hmap1
  have Hbel1 := Lib.hid hbel1
  clear hown1 hmap1 hbel1 c3
  go_wp2_with fail
  refine (lead_any u1 lf w4 Hrow1.out (by rw [hTrow.1]; omega)).mono ?_
  rintro e w5 ⟨rfl, hbel2⟩
  have c5 : w5.cell? ⟨w.heap.size, 0, none⟩ = some (.int .i64 p) := (hbel2.cell (p := ⟨w.heap.size, 0, none⟩) Hs4.out).trans c4
  have Hs5 : Hid (w.heap.size < w5.heap.size) := Nat.lt_of_lt_of_le Hs4.out hbel2.size
  have Hb6 := Lib.hid (below_next Hb5.out (Nat.le_refl _) hbel2)
  have Hmap2 := Lib.hid (Hmap1.out.kept (only_of_below hbel2 none) (by simp))
  have Hls5 := Lib.hid ((Hls3.out.up Hbel1.out).up hbel2)
  clear hbel2 c4 Hcell3
  by_cases hneg : 0 ≤ leadI lf
  · obtain rfl : r = none := Hre.out.trans (if_pos hneg)
    clear Hre
    go_wp2
    refine ⟨.tuple #[.slice none 0 0, .bool false], ?_, ⟨_, rfl, Row.nil_ _ _, Hb6.out⟩⟩
    simp [results, Tryd.f16, go_sem]
  · obtain rfl : r = some (timesL p ls cols.length f) := Hre.out.trans (if_neg hneg)
    have hneg' : leadI lf < 0 := by omega
    clear hneg Hre
    obtain ⟨m, hm⟩ : ∃ m, m = cols.length := ⟨_, rfl⟩
    have hfl : ∀ X, f X ≠ 0 → X < m := by
      intro X hX
      apply Classical.byContradiction
      intro hn'
      exact hX (Htake.out.off X fun l hl e => hn' (by have := HL.out.lt hl; omega))
    have Hfl := Lib.hid hfl
    have hfr := fun X => Htake.out.byr X
    simp only at hfr
    have Hfr := Lib.hid hfr
    obtain ⟨D, hD1, hD2⟩ := Hmap2.out
    have HD2 := Lib.hid hD2
    have Hb1lt := Lib.hid hD1.lt
    have hmk := fun W => run_make_row' 26 3 (.int .i64 0) 8 Tryd.underlying26 info3 rfl .i64 .i64 m (by omega) (by omega) W
    have Hnums : Hid (Nums (w5.alloc (.cells (madeCells #[.int .i64 0] m) 3)) w5.heap.size m (fun _ => 0)) := World.rowIs_made w5 (.int .i64 0) m 3
    have Hnums2 : Hid (Nums ((w5.alloc (.cells (madeCells #[.int .i64 0] m) 3)).alloc (.cells #[.slice (some ⟨w5.heap.size, 0, none⟩) m m] 26)) w5.heap.size m (fun _ => 0)) := World.rowIs.alloc Hnums.out _
    have Hbox2 : Hid (((w5.alloc (.cells (madeCells #[.int .i64 0] m) 3)).alloc (.cells #[.slice (some ⟨w5.heap.size, 0, none⟩) m m] 26)).cell? ⟨w5.heap.size + 1, 0, none⟩ = some (.slice (some ⟨w5.heap.size, 0, none⟩) m m)) := by
      show _ = _
      simp
    have Hbel3 := Lib.hid (below_two w5 (.cells (madeCells #[.int .i64 0] m) 3) (.cells #[.slice (some ⟨w5.heap.size, 0, none⟩) m m] 26))
    have Hmap3 := Lib.hid ((hD1.kept (World.grownBy_alloc w5 (.cells (madeCells #[.int .i64 0] m) 3) none) (by simp)).kept (World.grownBy_alloc _ (.cells #[.slice (some ⟨w5.heap.size, 0, none⟩) m m] 26) none) (by simp))
    rw [← hm] at hn'
    rw [← hm]
    have Hm := Lib.hid hm
    clear hfl hfr hD1 hD2 hm
    go_wp2_with (at_range; refine wpList_range_own _ rfl _ 41 rfl 3 3 key_law Tryd.underlying41 _ b1 64 D rfl Hmap3.out ?_)
    intro w6 hrg6 hg6 hs6
    have Hn6 := Lib.hid (Hnums2.out.kept hg6 (by simp))
    have Hx6 : Hid (w6.cell? ⟨w5.heap.size + 1, 0, none⟩ = some (.slice (some ⟨w5.heap.size, 0, none⟩) m m)) := (World.cell?_of_block (a := ⟨w5.heap.size + 1, 0, none⟩) (hg6.block (w5.heap.size + 1) (by simp) (by simp))).trans Hbox2.out
    have Hbel6 := Lib.hid (Hbel3.out.grown hg6 (by simp; omega) (fun k e => by cases e))
    have Hrg6 := Lib.hid hrg6
    have Hs6 := Lib.hid hs6
    clear hg6 hrg6 hs6 Hnums Hnums2 Hbox2 Hbel3 Hmap3 hmk
    go_wp2
    go_loopw [14] (fun _ wr => ∃ (left : Lit → Bool) (cnt : Nat), wr.ranges Tryd.prog 3 (plainElem Tryd.prog 3) b1 (w5.heap.size + 1 + 1) 64 D left cnt ∧ Nums wr w5.heap.size m (midF f (fun _ => 0) f left) ∧
        wr.cell? ⟨w5.heap.size + 1, 0, none⟩ = some (.slice (some ⟨w5.heap.size, 0, none⟩) m m) ∧ Below w5.heap.size w5 wr ∧ w5.heap.size + 3 ≤ wr.heap.size) (fun _ wr => wr.rangeLeft b1 (w5.heap.size + 1 + 1))
    case atStart => exact ⟨_, _, Hrg6.out, Hn6.out.congr fun i _ => (mid_start (old := fun _ => 0) (new := f) HD2.out i).symm, Hx6.out, Hbel6.out, by have := Hs6.out; omega⟩
    case round =>
      clear Hn6 Hx6 Hbel6 Hrg6 Hs6
      obtain ⟨left, cnt, hrg, hnums, hbx, hbel, hsz⟩ := hrel
      have Hrg := Lib.hid hrg
      have Hnums := Lib.hid hnums
      have Hbel := Lib.hid hbel
      have Hsz := Lib.hid hsz
      clear hrg hnums hbel hsz
      go_wp2_with (at_next; refine wpList_next_ranges_ii _ rfl _ rfl 3 3 .i64 .i64 key_law Tryd.underlying3 Tryd.underlying3 b1 (w5.heap.size + 1 + 1) 64 _ _ _ rfl Hrg.out ?_ ?_)
      · intro hc0 hl0
        have Hn8 := Lib.hid (Hnums.out.congr (f' := f) fun i _ => (mid_end hl0 i).trans (by by_cases h : f i = 0 <;> simp [h]))
        clear Hnums hc0 hl0
        go_wp2_with fail
        refine (backward_any A3 ls.length cc3 wr).mono ?_
        rintro e w7 ⟨rfl, rfl⟩
        go_wp2
        refine (wpIn_wide (n := 8)).1 ?_
        obtain ⟨Bs, hBs⟩ : ∃ Bs, Bs = wr.heap.size := ⟨_, rfl⟩
        rw [← hBs]
        obtain ⟨ad, Ao, Ln, Ck, Mm, hA3, had, hLU, hMm⟩ := lines_u Hls5.out
        have hT0 : InR p m ((List.range m).map f) := inR_of_get (by simp) fun i hi => by
          rw [getD_map_range, if_pos hi]
          exact Hfr.out i
        obtain ⟨Wc, hWc⟩ : ∃ Wc, wr.alloc (.cells #[.slice A3 ls.length cc3] 39) = Wc := ⟨_, rfl⟩
        have hWs : Wc.heap.size = Bs + 1 := by rw [← hWc, hBs]; simp
        have hWB : Wc.cell? ⟨Bs, 0, none⟩ = some (.slice A3 ls.length cc3) := by
          rw [← hWc, hBs]
          exact (Blk.new wr _ _).cell 0
        have hWbel : Below w5.heap.size w5 Wc := by
          rw [← hWc]
          exact Hbel.out.alloc (by have := Hsz.out; omega) _
        have hWn : Nums Wc w5.heap.size m f := by
          rw [← hWc]
          exact World.rowIs.alloc Hn8.out _
        have hWx : Wc.cell? ⟨w5.heap.size + 1, 0, none⟩ = some (.slice (some ⟨w5.heap.size, 0, none⟩) m m) := by
          rw [← hWc, World.cell?_alloc_lt]
          · exact hbx
          · have := Hsz.out
            show w5.heap.size + 1 < _
            omega
        rw [hWc]
        have hsz3 : w5.heap.size + 3 ≤ Bs := by rw [hBs]; exact Hsz.out
        have HBs := Lib.hid hBs
        clear hBs hWc hbx
        refine wpIn_rangeFunc_ownH rfl (by omega) (gf := 39) (lb := #[.pointer (some ⟨Bs, 0, none⟩)]) rfl trivial (enters_of Tryd.func39 (by kernel_rfl) rfl)
          (back_stops Fence.wide _ trivial rfl (by omega) Bs w5.heap.size A3 ad cc3 ls (fun k => .slice (Ao k) (Ln k) (Ck k)) Mm hA3 had hls64 Wc (by omega) (by omega) hWB (hLU.below had hWbel))
          keepsBox_t (keepsBox_b (by omega) (by omega)) (Below.refl _ _) (fun _ => rfl)
          (fun pre W => Nums W w5.heap.size m (fun i => (backF p ls ((List.range m).map f) pre).getD i 0) ∧ W.cell? ⟨w5.heap.size + 1, 0, none⟩ = some (.slice (some ⟨w5.heap.size, 0, none⟩) m m) ∧ Below w5.heap.size w5 W ∧ Wc.heap.size ≤ W.heap.size)
          (fun _ _ _ => False)
          (fun s X Y row hs hg hr => ⟨hs.1.kept hg (fun e => by have := (hr _ e.symm).1; omega), (World.cell?_of_block (a := ⟨w5.heap.size + 1, 0, none⟩) (hg.block (w5.heap.size + 1) (by have := hs.2.2.2; omega) (fun e => by have := (hr _ e.symm).1; omega))).trans hs.2.1, hs.2.2.1.grown hg hs.2.2.1.size (fun k e => by have := (hr k e).1; omega), Nat.le_trans hs.2.2.2 hg.size⟩)
          (fun _ _ _ _ _ hs _ _ => hs)
          ⟨hWn.congr fun i hi => by rw [show backF p ls ((List.range m).map f) [] = (List.range m).map f from rfl, getD_map_range, if_pos hi], hWx, hWbel, Nat.le_refl _⟩
          (fun x a' W => ∃ Bx, Wc.heap.size ≤ Bx ∧ Blk W Bx 43 #[.int .i64 ((ls[x.1]'x.2).place : Int), .slice (Ao x.1) (Ln x.1) (Ck x.1), .int .i64 ((ls[x.1]'x.2).lead : Int), .int .i64 (ls[x.1]'x.2).inv, .map (some (Mm x.1))] ∧ a' = { tmps := #[.int .i64 p, .int .i64 R, .slice A m c, .slice Ag goal.length cg, .pointer (some ⟨w.heap.size, 0, none⟩), undef, undef, undef, .slice none 0 0, .bool false, .slice A3 ls.length cc3, u1, .map (some b1), .pointer (some ⟨w5.heap.size + 1, 0, none⟩), u14, u15, undef, .pointer (some ⟨Bx, 0, none⟩), undef, undef,
            .int .i64 p, .int .i64 R, .slice A m c, .bool true, .bool false, .bool false, .int .i64 p, .int .i64 R, .slice Ag goal.length cg, .slice (some ⟨w1.heap.size, 0, none⟩) 1 1, .bool true, .bool false, .bool false, .int .i64 p, .slice A m c, .slice A3 ls.length cc3, .tuple #[u1, .map (some b1)], .int .i64 p, .slice A3 ls.length cc3, .slice Ag goal.length cg,
            .tuple #[u1, .map (some b1)], u1, .map (some b1), u1, .int .i64 (leadI lf), .bool (decide (0 ≤ leadI lf)), .slice A m c, .int .i64 m, .slice (some ⟨w5.heap.size, 0, none⟩) m m, .map (some b1), .pointer (some ⟨w5.heap.size + 1 + 1, 0, none⟩), .tuple #[.bool false], .bool false, u53, u54, u55, u56, u57, u58, u59, .slice A3 ls.length cc3,
            .func (.func 39) #[] #[.pointer (some ⟨Bs, 0, none⟩)], .int .i64 (x.1 : Int), lineV (.slice (Ao x.1) (Ln x.1) (Ck x.1)) (Mm x.1) (ls[x.1]'x.2), undef, undef, undef, undef, undef, undef, undef, undef, undef, undef, undef, undef, undef, undef, undef, undef, undef, undef, undef, undef, undef, undef, undef, undef, undef, undef], defers := [] })
          (fun x a' s X Y row hs hg hr => by
            obtain ⟨Bx, h1, h2, h3⟩ := hs
            refine ⟨Bx, h1, h2.grown hg (fun e => ?_), h3⟩
            obtain ⟨_, o, ho, hc⟩ := hr Bx e.symm
            unfold Blk at h2
            rw [h2] at ho
            cases ho
            cases hc) ?assign ?body ?done ?stop
        case assign =>
          intro l pre x W K hi hK
          have Hi := Lib.hid hi
          have hK' := fun a' h4 => hK a' (W.alloc (.cells #[.int .i64 ((ls[x.1]'x.2).place : Int), .slice (Ao x.1) (Ln x.1) (Ck x.1), .int .i64 ((ls[x.1]'x.2).lead : Int), .int .i64 (ls[x.1]'x.2).inv, .map (some (Mm x.1))] 43)) ((KeepsOthers.alloc _ _).from _)
            ⟨(Below.refl w5.heap.size W).alloc (by have := Hi.out.2.2.1.size; omega) _, World.cell?_alloc_lt _ _ _ (by have := Hi.out.2.2.2; show Bs < _; omega)⟩
            ⟨World.rowIs.alloc Hi.out.1 _, (World.cell?_alloc_lt _ _ _ (by have := Hi.out.2.2.2; show w5.heap.size + 1 < _; omega)).trans Hi.out.2.1, Hi.out.2.2.1.alloc (by have := Hi.out.2.2.1.size; omega) _, by have := Hi.out.2.2.2; simp; omega⟩ h4
          have HK := Lib.hid hK'
          have Hblk := Lib.hid (Blk.new W 43 #[.int .i64 ((ls[x.1]'x.2).place : Int), .slice (Ao x.1) (Ln x.1) (Ck x.1), .int .i64 ((ls[x.1]'x.2).lead : Int), .int .i64 (ls[x.1]'x.2).inv, .map (some (Mm x.1))])
          clear hK hK' hi
          unfold backEnc lineV
          gi_wp2
          exact HK.out _ ⟨W.heap.size, Hi.out.2.2.2, Hblk.out, rfl⟩
        case body =>
          rintro l pre x a' W hl ⟨rr, hrr⟩ ⟨hn1, hx1, hbl1, hsz1⟩ ⟨Bx, hBx, hblk, rfl⟩ hlt
          have hxk := x.2
          have Hmx := Lib.hid (hMm x.1 hxk)
          have Hok := Lib.hid (ech_ok HL.out.ech _ (List.getElem_mem hxk))
          have Hpl := Lib.hid (HL.out.lt (List.getElem_mem hxk))
          have Hback := Lib.hid (backF_in (p := p) (by omega) (pre := pre) hT0)
          have Hsn := Lib.hid (backF_snoc p ls ((List.range m).map f) pre x)
          generalize backF p ls ((List.range m).map f) pre = T at *
          generalize ls[x.1]'x.2 = L at *
          obtain ⟨pl, ll, ld, iv, bf⟩ := L
          generalize Ao x.1 = ao at *
          generalize Ln x.1 = lno at *
          generalize Ck x.1 = cko at *
          generalize Mm x.1 = mb at *
          obtain ⟨xi, hxi⟩ := x
          simp only at hblk Hmx Hpl Hok Hsn
          obtain ⟨Dl, hDl1, hDl2⟩ := Hmx.out.2
          have HDl2 := Lib.hid hDl2
          have HownW := Lib.hid (hDl1.kept (only_of_below hbl1 none) (by simp))
          have HN := Lib.hid hn1
          have HB := Lib.hid hbl1
          have HX := Lib.hid hx1
          have Hblk := Lib.hid hblk
          have d4 := hblk.cell 4
          simp only [List.getElem?_toArray, List.getElem?_cons_zero, List.getElem?_cons_succ] at d4
          clear hn1 hbl1 hx1 hrr hblk hDl1 hDl2 hT0 hMm hLU
          gi_wp2_with (gi_at_range; refine wpListIn_range_own _ rfl _ 41 rfl 3 3 key_law Tryd.underlying41 _ mb 64 Dl rfl HownW.out ?_)
          intro w8 hrg8 hg8 hs8
          have Hg8 := Lib.hid (World.grownBy.but hg8 (some w5.heap.size))
          have Hrg8 := Lib.hid hrg8
          have Hn8' := Lib.hid (HN.out.kept hg8 (by simp))
          have Hs8 := Lib.hid hs8
          clear hrg8 hg8 hs8 d4 HownW
          gi_wp2
          gi_loopw [18] (fun _ wq => ∃ (left : Lit → Bool) (cnt : Nat), wq.ranges Tryd.prog 3 (plainElem Tryd.prog 3) mb W.heap.size 64 Dl left cnt ∧ Nums wq w5.heap.size m (midF bf (fun i => T.getD i 0) (fun i => (T.getD i 0 - T.getD pl 0 * bf i) % p) left) ∧
              W.grownBy wq (some w5.heap.size) ∧ W.heap.size + 1 ≤ wq.heap.size) (fun _ wq => wq.rangeLeft mb W.heap.size)
          case atStart => exact ⟨_, _, Hrg8.out, Hn8'.out.congr fun i _ => (mid_start (old := fun i => T.getD i 0) (new := fun i => (T.getD i 0 - T.getD pl 0 * bf i) % p) HDl2.out i).symm, Hg8.out, by have := Hs8.out; omega⟩
          case round =>
            clear Hrg8 Hn8' Hg8 Hs8
            obtain ⟨left', cnt', hrg, hnums, hgr, hszq⟩ := hrel
            have Hrg := Lib.hid hrg
            have Hnq := Lib.hid hnums
            have Hgr := Lib.hid hgr
            have Hszq := Lib.hid hszq
            clear hrg hnums hgr hszq
            gi_wp2_with (gi_at_next; refine next_in _ rfl _ rfl 3 3 key_law Tryd.underlying3 Tryd.underlying3 mb W.heap.size 64 Dl left' cnt' rfl Hrg.out ?_ ?_)
            · intro hl0
              have Hne := Lib.hid (Hnq.out.congr (f' := fun i => (backF p ls ((List.range m).map f) (pre ++ [⟨xi, hxi⟩])).getD i 0) fun i hi => by
                rw [mid_end hl0, Hsn.out, backL_getD (by rw [Hback.out.1]; exact hi)])
              clear Hnq hl0
              gi_wp2
              refine ⟨KeepsFrom.of_grownBy Hgr.out (fun k e => by injection e with e; omega), ⟨only_below Hgr.out (by omega) (Nat.le_refl _), World.cell?_of_block (a := ⟨Bs, 0, none⟩) (Hgr.out.block Bs (by omega) (by intro e; injection e with e; omega))⟩, Hne.out, ?_, ?_, ?_⟩
              · exact (World.cell?_of_block (a := ⟨w5.heap.size + 1, 0, none⟩) (Hgr.out.block (w5.heap.size + 1) (by omega) (by intro e; injection e with e; omega))).trans HX.out
              · exact HB.out.trans (only_below Hgr.out (by omega) (Nat.le_refl _))
              · have := Hgr.out.size
                omega
            · intro x9 c9 w9 cnt9 hlx hat hrg9 hlt9 hg9 hs9 hen
              obtain ⟨X, rfl, hX, rfl⟩ := reads_key HDl2.out hat
              have hXpl := Hok.out.byp X hX
              have hbX := Hok.out.byr X
              simp only at hXpl hbX
              have hXm : X < m := by have := Hpl.out; rw [← Hm.out] at this; omega
              have hplm : pl < m := by have := Hpl.out; rw [← Hm.out] at this; omega
              have hbpl : bf pl = 0 := by
                apply Classical.byContradiction
                intro hne
                have := Hok.out.byp pl hne
                simp only at this
                omega
              have Hstep := Lib.hid (mid_step (old := fun i => T.getD i 0) (new := fun i => (T.getD i 0 - T.getD pl 0 * bf i) % p) (left := left') hX)
              have hrI : W.heap.size ≠ w5.heap.size := by omega
              have Hn9 := Lib.hid (Hnq.out.kept hg9 (by intro e; injection e with e; omega))
              have Hgr9 := Lib.hid (only_grown Hgr.out hg9 (fun k e => by injection e with e; omega))
              have eX := World.rowIs.cell Hn9.out hXm
              have epl := World.rowIs.cell Hn9.out hplm
              rw [mid_todo hlx] at eX
              rw [mid_off hbpl] at epl
              have hfz : w9.frozen? ⟨w5.heap.size, X, none⟩ = false := World.rowIs.frozen Hn9.out X
              have ebx := (World.cell?_of_block (a := ⟨w5.heap.size + 1, 0, none⟩) (Hgr9.out.block (w5.heap.size + 1) (by omega) (by intro e; injection e with e; omega))).trans HX.out
              have ep := (World.cell?_of_block (a := ⟨w.heap.size, 0, none⟩) (Hgr9.out.block w.heap.size (by have := Hs5.out; omega) (by have := Hs5.out; intro e; injection e with e; omega))).trans ((HB.out.cell (p := ⟨w.heap.size, 0, none⟩) Hs5.out).trans c5)
              have d0 := (World.cell?_of_block (a := ⟨Bx, 0, none⟩) (Hgr9.out.block Bx Hblk.out.lt (by intro e; injection e with e; omega))).trans (Hblk.out.cell 0)
              simp only [List.getElem?_toArray, List.getElem?_cons_zero] at d0
              have ra := Hback.out.get (by omega) X
              have rb := Hback.out.get (by omega) pl
              obtain ⟨ta, hta⟩ : ∃ ta, ta = T.getD X 0 := ⟨_, rfl⟩
              obtain ⟨tb, htb⟩ : ∃ tb, tb = T.getD pl 0 := ⟨_, rfl⟩
              obtain ⟨cc, hcc⟩ : ∃ cc, cc = bf X := ⟨_, rfl⟩
              rw [← hta] at eX ra
              rw [← htb] at epl rb
              rw [← hcc] at hbX hen
              have Hta := Lib.hid hta
              have Htb := Lib.hid htb
              have Hcc := Lib.hid hcc
              have hmz := mul_in h31 rb.1 rb.2 hbX.1 hbX.2
              have hw1 : IntKind.i64.wrap (tb * cc) = tb * cc := by rw [IntKind.wrap_i64]; omega
              have hw2 : IntKind.i64.wrap (ta - tb * cc) = ta - tb * cc := by rw [IntKind.wrap_i64]; omega
              have Hq := Lib.hid (fun W => mod_yes (ta - tb * cc) p W ⟨by omega, h31⟩)
              have hXm' : (X : Int) < (m : Int) := by omega
              have hplm' : (pl : Int) < (m : Int) := by omega
              have Hrg9 := Lib.hid hrg9
              have Hlt9 := Lib.hid hlt9
              have Hs9 := Lib.hid hs9
              have HXne := Lib.hid hX
              clear hrg9 hlt9 hs9 hlx hat hg9 Hnq hX hXpl hbpl Hgr hta htb hcc
              gi_wp2
              refine wpIn_region_still_tail 17 (by kernel_rfl) (by kernel_rfl) (by kernel_rfl) ?_
              simp only [List.take_succ_cons, List.take_zero, List.drop_succ_cons, List.drop_zero]
              repeat still_step
              still_call (Hq.out _)
              repeat still_step
              try refine wpStill_nil ?_
              change wpListIn _ _ _ _ _ _ _ w9.drew
              gi_wp2
              have hmbgt : some mb ≠ some w5.heap.size := by
                have := Hmx.out.1
                intro e
                injection e with e
                omega
              have hkeep0 := Hrg9.out.kept (grown_set w9 w5.heap.size X (.int .i64 ((ta - tb * cc) % p))) hmbgt (by intro e; injection e with e; omega)
              have hkeep := hkeep0.kept (only_drew (World.grownBy.refl (w9.setCell ⟨w5.heap.size, X, none⟩ (.int .i64 ((ta - tb * cc) % p))) none)) (by simp) (by simp)
              go_roundw
              case rel =>
                refine ⟨_, cnt9, hkeep, (Hn9.out.set X ((ta - tb * cc) % p)).congr fun i _ => ?_, only_drew (only_setCell Hgr9.out (.inl rfl) _), ?_⟩
                · rw [Hstep.out i]
                  by_cases h : i = X
                  · subst h
                    rw [if_pos rfl, if_pos rfl, Hta.out, Htb.out, Hcc.out]
                  · rw [if_neg h, if_neg h]
                · have h1 := Hs9.out
                  have h2 := Hszq.out
                  simp [World.setCell]
                  omega
              case measure =>
                rw [hkeep.left_eq, Hrg.out.left_eq]
                exact Hlt9.out
        case done =>
          rintro D' ys W hD hS ⟨hn1, hx1, hbl1, hsz1⟩ hK
          have HN := Lib.hid hn1
          have HB := Lib.hid hbl1
          have HK := Lib.hid hK
          have HD := Lib.hid hD
          have HS := Lib.hid hS
          have HT0 := Lib.hid hT0
          clear hn1 hbl1 hK hS hT0
          go_wp2
          refine ⟨by simp, .inl ⟨_, _, rfl, run_takeDeferred HK.out, ?_⟩⟩
          have hgr := grownBy_putObj' W D' (.deferred none)
          have hrow := (HN.out.kept hgr (by intro e; injection e with e; omega)).row (by omega)
          have hback := backF_in (p := p) (by omega) (pre := ys) HT0.out
          refine ⟨.tuple #[.slice (some ⟨w5.heap.size, 0, none⟩) m m, .bool true], ?_, ⟨_, rfl, ?_, ?_⟩⟩
          · simp [results, Tryd.f16, go_sem]
          · have e : (List.range m).map (fun i => (backF p ls ((List.range m).map f) ys).getD i 0) = timesL p ls cols.length f := by
              rw [show (List.range m).map (fun i => (backF p ls ((List.range m).map f) ys).getD i 0) = backF p ls ((List.range m).map f) ys by
                have := map_getD (backF p ls ((List.range m).map f) ys)
                rwa [hback.1] at this]
              unfold timesL backF
              rw [back_fold HS.out (backL p), Hm.out]
            rw [e] at hrow
            exact hrow
          · exact (below_next Hb6.out (Nat.le_refl _) (HB.out.grown hgr HB.out.size (fun k e => by injection e with e; omega)))
        case stop =>
          rintro _ _ _ _ _ _ h _
          exact h.elim
      · intro x cx w7 cnt7 hwx hwc hlx hat hrg7 hlt7 hg7 hs7 hen
        obtain ⟨X, rfl, hX, rfl⟩ := reads_key HD2.out hat
        have hXm := Hfl.out X hX
        have Hstep := Lib.hid (mid_step (old := fun _ => 0) (new := f) (left := left) hX)
        have HX := Lib.hid hX
        have Hn7 := Lib.hid (Hnums.out.kept hg7 (by intro e; injection e with e; omega))
        have hbx7 : w7.cell? ⟨w5.heap.size + 1, 0, none⟩ = some (.slice (some ⟨w5.heap.size, 0, none⟩) m m) := (World.cell?_of_block (a := ⟨w5.heap.size + 1, 0, none⟩) (hg7.block (w5.heap.size + 1) (by have := Hsz.out; omega) (by intro e; injection e with e; omega))).trans hbx
        have Hbel7 := Lib.hid (Hbel.out.grown hg7 (by have := Hsz.out; omega) (fun k e => by injection e with e; omega))
        have Hrg7 := Lib.hid hrg7
        have Hlt7 := Lib.hid hlt7
        have Hs7 := Lib.hid hs7
        have hfz : w7.frozen? ⟨w5.heap.size, X, none⟩ = false := World.rowIs.frozen Hn7.out X
        have hcX := World.rowIs.cell Hn7.out hXm
        have hXm' : (X : Int) < (m : Int) := by omega
        clear hwx hwc hlx hat hrg7 hlt7 hg7 hs7 hX hbx
        go_wp2
        go_roundw
        case rel =>
          refine ⟨_, cnt7, Hrg7.out.kept (grown_set w7 w5.heap.size X (.int .i64 (f X))) (by have := Hb1lt.out; intro e; injection e with e; omega) (by intro e; injection e with e; omega), (Hn7.out.set X (f X)).congr fun i _ => by rw [Hstep.out i]; by_cases h : i = X <;> simp [h], ?_, Hbel7.out.setCell (p := ⟨w5.heap.size, X, none⟩) (Nat.le_refl _) _, ?_⟩
          · rw [World.cell?_setCell_other _ _ _ _ (by intro e; injection e with e; omega)]
            exact hbx7
          · have h1 := Hs7.out
            have h2 := Hsz.out
            simp [World.setCell]
            omega
        case measure =>
          rw [(Hrg7.out.kept (grown_set w7 w5.heap.size X (.int .i64 (f X))) (by have := Hb1lt.out; intro e; injection e with e; omega) (by intro e; injection e with e; omega)).left_eq, Hrg.out.left_eq]
          exact Hlt7.out

theorem combo_any (p rows : Int) (v vg : Value) (cols : List (List Int)) (goal : List Int) (w : World) (hM : Met w) (hr : Rows2 w w.heap.size v cols) (hg : Row w w.heap.size vg goal) :
    Calls Tryd.prog 16 #[.int .i64 p, .int .i64 rows, v, vg] w (TellsC w (comboI p rows cols goal)) := by
  unfold comboI
  rcases hb : elimB p rows cols with _ | _
  · simp only [Bool.false_and, Bool.false_eq_true, if_false]
    exact combo_bad p rows v vg cols w hM hr hb
  · rcases hb2 : elimB p rows [goal] with _ | _
    · simp only [Bool.and_false, Bool.false_eq_true, if_false]
      exact combo_off p rows v vg cols goal w hM hr hg hb hb2
    · simp only [Bool.and_self, if_true]
      obtain ⟨h1, R, rfl, h2, h3, h4⟩ := elimB_in hb
      obtain ⟨_, R', e, _, _, h5⟩ := elimB_in hb2
      have : R = R' := by omega
      subst this
      exact combo_in p R v vg cols goal w hM hr hg h1 h2 h3 h4 (h5 0 (by simp))

end Wp
end Go.Proofs.YtmnhpccdhefddaaDoor
