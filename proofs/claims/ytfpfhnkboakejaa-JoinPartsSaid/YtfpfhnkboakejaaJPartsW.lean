/- The program's Parts: the sets of what is connected, where each stands in a map: walked. -/
import Derived.Test.YtfpfhnkboakejaaJComps
import Derived.Test.YtfpfhnkboakejaaJRows
import Derived.Maps.OwnOps
import Derived.Maps.Views
namespace Go.Proofs.Ytfpfhnkboakejaa
open Go.RowKit Go.Maps
namespace Wp

def castL (l : List Nat) : List Int := l.map fun v : Nat => (v : Int)
def castP (pp : List (List Nat)) : List (List Int) := pp.map castL
theorem castP_length (pp : List (List Nat)) : (castP pp).length = pp.length := by simp [castP]
theorem castP_at {pp : List (List Nat)} {i : Nat} {p : List Nat} (h : pp[i]? = some p) : (castP pp)[i]? = some (castL p) := by simp [castP, h]
theorem castP_set (pp : List (List Nat)) (i : Nat) (p : List Nat) : castP (pp.set i p) = (castP pp).set i (castL p) := by simp [castP, List.map_set]
theorem castL_length (l : List Nat) : (castL l).length = l.length := by simp [castL]
theorem castL_snoc (l : List Nat) (k : Nat) : castL (l ++ [k]) = castL l ++ [(k : Int)] := by simp [castL]

/-- The map knows where each part stands. -/
def Placed (D : DataW Unit) (f : Nat → Nat) (k : Nat) : Prop := ∀ r, r < k → f r = r → D.atKey (.int .i64 (r : Int)) (.lit (.int .i64 0)) = .lit (.int .i64 (cnt (rootB f) r : Int))

theorem law3 : Keyed Try.prog 3 := int_keyed Try.underlying3
theorem zero3 (w : World) : (zeroValue 3).run Try.prog w = .ok (.int .i64 0) w := by kernel_rfl
theorem info24 : (Try.prog.info? 24).map (fun i => (i.zero, i.size, i.bytes)) = some (some (.slice none 0 0), 1, 24) := by kernel_rfl

theorem placed_more {D : DataW Unit} {f : Nat → Nat} {k : Nat} (h : Placed D f k) (hk : f k ≠ k) : Placed D f (k + 1) := by
  intro r hr hf
  by_cases hrk : r = k
  · subst hrk; exact absurd hf hk
  · exact h r (by omega) hf
theorem isMap_of {w : World} {b n : Nat} {D : DataW Unit} (h : w.ownsMap Try.prog 3 (plainElem Try.prog 3) b n D) : IsMap D := by
  obtain ⟨_, _, _, _, _, hD⟩ := h
  exact ⟨_, hD⟩
theorem placed_put {D : DataW Unit} {f : Nat → Nat} {k : Nat} (h : Placed D f k) (hD : IsMap D) : Placed (D.put (.int .i64 (k : Int)) (.lit (.int .i64 (cnt (rootB f) k : Int)))) f (k + 1) := by
  intro r hr hf
  by_cases hrk : r = k
  · subst hrk
    exact atKey_put_same hD (show WideAt.IsKeyLit (.int .i64 (r : Int)) from trivial) _ _
  · rw [atKey_put_other (by intro e; injection e; omega)]
    exact h r (by omega) hf

/-- A call gives a list of lists, and no error. -/
def GivesRows (w : World) (pp : List (List Int)) (e : Ending) (w' : World) : Prop :=
  ∃ v, e = .returned (.tuple #[v, .int .i64 0]) ∧ Rows2 w' w'.heap.size v pp ∧ Below w.heap.size w w'
/-- A call tells what is no graph. -/
def Refuses (w : World) (e : Ending) (w' : World) : Prop := e = .returned (.tuple #[.slice none 0 0, .int .i64 1]) ∧ Below w.heap.size w w'

set_option maxHeartbeats 4000000 in
set_option maxRecDepth 100000 in
theorem parts_bad (n : Int) (v : Value) (es : List (Int × Int)) (w : World) (hr : Edges w w.heap.size v es) (hl : es.length ≤ 1048576) (hb : isG n es = false) :
    Calls Try.prog 11 #[.int .i64 n, v] w (Refuses w) := by
  have Hr := Lib.hid hr
  have Hb := Lib.hid hb
  obtain ⟨A, c, rfl, _⟩ := hr
  clear hb
  go_enter Try.func11, Try.ntmps11
  go_wp2_with fail
  refine (comps_bad n _ es w Hr.out hl Hb.out).mono ?_
  rintro e w1 ⟨rfl, hb1⟩
  go_wp2
  go_ret2
  exact ⟨rfl, hb1⟩

set_option maxHeartbeats 8000000 in
set_option maxRecDepth 100000 in
theorem parts_good (m : Nat) (v : Value) (ns : List (Nat × Nat)) (w : World) (hr : Edges w w.heap.size v (castE ns)) (h1 : 1 ≤ m) (h2 : m ≤ 64) (h3 : ns.length ≤ 4096) (h4 : Lies m ns) :
    Calls Try.prog 11 #[.int .i64 m, v] w (GivesRows w (castP (partsL m (compF ns)))) := by
  have Hr := Lib.hid hr
  have Hc := Lib.hid (comps_good m v ns w hr h1 h2 h3 h4)
  have h2' : (m : Int) ≤ 64 := by omega
  have h1' : 1 ≤ (m : Int) := by omega
  have Hle := Lib.hid (comp_le ns)
  have Hid' := Lib.hid (comp_idem ns)
  obtain ⟨A, c, rfl, _⟩ := hr
  clear h4 h3
  have hmm := @run_makeMap Try.prog
  go_enter Try.func11, Try.ntmps11
  go_wp2_with fail
  refine Hc.out.mono ?_
  rintro e w1 ⟨g, rfl, hlab, hg, hb1⟩
  generalize compF ns = f at *
  have Hlab := Lib.hid hlab
  clear Hc hlab Hr
  have hgl : g < w1.heap.size := World.rowIs.lt Hlab.out
  obtain ⟨mb, hmb⟩ : ∃ mb, mb = w1.heap.size := ⟨_, rfl⟩
  have Hmap0 : Hid ((w1.alloc (.map #[] 0)).ownsMap Try.prog 3 (plainElem (H := Unit) Try.prog 3) mb 0 (.map [])) := by
    show World.ownsMap _ _ _ _ _ _ _
    rw [hmb]
    exact World.ownsMap_made w1 Try.prog 3 _
  have Hbm : Hid (Below mb w1 (w1.alloc (.map #[] 0))) := by
    show Below _ _ _
    rw [hmb]
    exact (Below.refl _ w1).alloc (Nat.le_refl _) _
  have Hsz : Hid (mb + 1 ≤ (w1.alloc (.map #[] 0)).heap.size) := by
    show _ ≤ _
    rw [hmb]; simp
  have Hmbw : Hid (w.heap.size ≤ mb) := by
    show _ ≤ _
    rw [hmb]; exact hb1.size
  have hgm : g < mb := by rw [hmb]; exact hgl
  have Hb1 := Lib.hid hb1
  clear hb1 hgl
  go_wp2
  rw [← hmb]
  have Hmb1 := Lib.hid hmb
  clear hmb hmm
  go_loopw [8, 25] (fun vp vk wr => ∃ (k : Nat) (vs : List Value) (D : DataW Unit), vk = .int .i64 k ∧ k ≤ m ∧ wr.ownsRow (mb + 1) 24 1 vp vs.length vs ∧ Fam wr (mb + 1) vs (castP (partsL k f)) ∧
      wr.ownsMap Try.prog 3 (plainElem Try.prog 3) mb k D ∧ Placed D f k ∧ Below mb w1 wr ∧ mb + 1 ≤ wr.heap.size) (fun _ vk _ => m - (intOf vk).toNat)
  case atStart => exact ⟨0, [], .map [], rfl, Nat.zero_le _, World.ownsRow_nil _ _ _ _, fam_nil _ _, Hmap0.out, fun r hr => absurd hr (by omega), Hbm.out, Hsz.out⟩
  case round =>
    obtain ⟨k, vs, D, rfl, hk, hown, hfam, hmap, hpl, hbr, hsr⟩ := hrel
    clear Hmap0 Hbm Hsz
    obtain ⟨vA, vc, rfl⟩ := own_slice hown
    have Hown := Lib.hid hown
    have Hfam := Lib.hid hfam
    have Hmap := Lib.hid hmap
    have Hpl := Lib.hid hpl
    have Hbr := Lib.hid hbr
    clear hown hfam hmap hpl hbr
    by_cases hlt : k < m
    · have hc : wr.cell? ⟨g, k, none⟩ = some (.int .i64 (f k : Int)) := (Hbr.out.cell (p := ⟨g, k, none⟩) (hgm)).trans (Hlab.out.cell hlt)
      have Hvl : Hid (vs.length = cnt (rootB f) k) := by
        show _ = _
        rw [Hfam.out.1, castP_length, parts_length]
      have hvl : vs.length ≤ 64 := by
        rw [Hvl.out]
        have := cnt_le (rootB f) k
        omega
      have hvl' : (vs.length : Int) ≤ 64 := by omega
      obtain ⟨x, hxe⟩ : ∃ x, x = f k := ⟨_, rfl⟩
      rw [← hxe] at hc
      have hxk : x ≤ k := by rw [hxe]; exact Hle.out k
      have Hfx : Hid (f x = x) := by
        show f x = x
        rw [hxe]; exact Hid'.out k
      have Hwfx := Lib.hid (WalkArith.wf_i64 (n := (x : Int)) (by omega))
      have Hwfv := Lib.hid (WalkArith.wf_i64 (n := (vs.length : Int)) (by omega))
      have Hxe := Lib.hid hxe
      clear hxe
      by_cases hroot : x = k
      case' pos =>
        have Hroot := Lib.hid hroot
        have hkk : ((k : Int) == (x : Int)) = true := by simp [hroot]
        clear hroot
        go_wp2_with (at_mapUpdate; refine wpList_mapUpdate_own _ rfl _ _ _ 42 rfl 3 3 law3 Try.underlying42 _ mb k _ rfl Hmap.out (by unfold maxLen; omega) _ _ _ rfl rfl (keyOf_int_mk Try.underlying3 Hwfx.out) _ [] (plainElem_int Try.underlying3 Hwfv.out) ?_)
        intro w2 hmap2 hgr2
        have Hmap2 := Lib.hid hmap2
        have Hgr2 := Lib.hid hgr2
        clear hmap2 hgr2
        have hs2 : mb + 1 ≤ w2.heap.size := Nat.le_trans hsr Hgr2.out.size
        have hvb : ∀ q, (Value.slice vA vs.length vc).ownBlock = some q → mb + 1 ≤ q := fun q hq => (Hown.out.lt q hq).1
        have Hvb := Lib.hid hvb
        clear hvb
        have Hown2 := Lib.hid (Hown.out.kept Hgr2.out (by
          rcases hb : (Value.slice vA vs.length vc).ownBlock with _ | q
          · exact .inl rfl
          · right
            intro he
            injection he with he
            have := Hvb.out q hb
            omega))
        have Hfam2 := Lib.hid (Hfam.out.apart Hgr2.out (by omega))
        have Hbr2 := Lib.hid (Hbr.out.grown Hgr2.out (by omega) (fun i hi => by injection hi with hi; omega))
        have hcell := (Blk.new w2 24 #[.slice none 0 0]).cell 0
        simp only [List.getElem?_toArray, List.getElem?_cons_zero] at hcell
        have Hcell := Lib.hid hcell
        clear hcell
        go_wp2_with (at_builtin; refine wpList_append_cell rfl _ _ 28 24 (.slice none 0 0) 24 rfl Try.underlying28 info24 rfl (mb + 1) _ (.slice none 0 0) vs rfl (Hown2.out.alloc _) w2.heap.size rfl Hcell.out rfl (by omega) (by omega) (by simp; omega) ?_)
        intro vp3 w3 hown3 hgr3 _
        obtain ⟨D', hD⟩ : ∃ D', D' = D.put (.int .i64 (x : Int)) (.lit (.int .i64 (vs.length : Int))) := ⟨_, rfl⟩
        have HplT : Hid (Placed D' f (k + 1)) := by
          show Placed _ _ _
          rw [hD, Hroot.out, Hvl.out]
          exact placed_put Hpl.out (isMap_of Hmap.out)
        have HmapT : Hid (w3.ownsMap Try.prog 3 (plainElem Try.prog 3) mb (k + 1) D') := by
          show World.ownsMap _ _ _ _ _ _ _
          rw [hD]
          refine (Hmap2.out.alloc _).kept hgr3 ?_
          intro he
          have := Hvb.out mb he.symm
          omega
        have HbrT := Lib.hid ((Hbr2.out.alloc (by omega) (.cells #[.slice none 0 0] 24)).grown hgr3 (by simp; omega) (fun i hi => by have := Hvb.out i hi; omega))
        have hsT : mb + 1 ≤ w3.heap.size := Nat.le_trans (by simp; omega) hgr3.size
        obtain ⟨vt, hvt⟩ : ∃ vt, vt = vs ++ [.slice none 0 0] := ⟨_, rfl⟩
        have HownT : Hid (w3.ownsRow (mb + 1) 24 1 vp3 vt.length vt) := by
          show World.ownsRow _ _ _ _ _ _ _
          rw [hvt, List.length_append]
          exact hown3
        have HfamT : Hid (Fam w3 (mb + 1) vt (castP (partsRoom k f))) := by
          show Fam _ _ _ _
          have hr : castP (partsRoom k f) = castP (partsL k f) ++ [[]] := by
            unfold partsRoom
            rw [← Hxe.out, if_pos Hroot.out]
            simp [castP, castL]
          rw [hvt, hr]
          refine Fam.more ?_
          refine (Hfam2.out.new (World.grownBy_alloc _ (.cells #[.slice none 0 0] 24) none)).kept hgr3 ?_
          intro v hv
          obtain ⟨i, hi, rfl⟩ := List.mem_iff_getElem.1 hv
          have hip : i < (castP (partsL k f)).length := by rw [← Hfam2.out.1]; exact hi
          exact own_ne (Hfam2.out.2.1 i _ _ (List.getElem?_eq_getElem hi) (List.getElem?_eq_getElem hip)) Hown2.out (by decide)
        have hvt0 : 0 < vt.length := by rw [hvt, List.length_append]; simp
        obtain ⟨go, cap, rfl, hgo⟩ := own_form HownT.out hvt0
        clear hD hvt hvt0 hown3 hgr3 Hcell Hbr2 Hfam2 Hown2 Hvb Hmap2 Hgr2 hs2
      case' neg =>
        have Hroot := Lib.hid hroot
        have hkk : ((k : Int) == (x : Int)) = false := by rw [beq_eq_false_iff_ne]; omega
        clear hroot
        obtain ⟨w3, rfl⟩ : ∃ w3, w3 = wr := ⟨_, rfl⟩
        obtain ⟨vt, rfl⟩ : ∃ vt, vt = vs := ⟨_, rfl⟩
        obtain ⟨D', rfl⟩ : ∃ D', D' = D := ⟨_, rfl⟩
        have HplT : Hid (Placed D' f (k + 1)) := placed_more Hpl.out (by rw [← Hxe.out]; exact Hroot.out)
        have HmapT := Lib.hid (Hmap.out.mono (Nat.le_succ k))
        have HbrT := Hbr
        have hsT := hsr
        have HownT := Hown
        have HfamT : Hid (Fam w3 (mb + 1) vt (castP (partsRoom k f))) := by
          show Fam _ _ _ _
          unfold partsRoom
          rw [← Hxe.out, if_neg Hroot.out]
          exact Hfam.out
        have hvt0 : 0 < vt.length := by
          rw [HfamT.out.1, castP_length]
          exact Nat.lt_of_le_of_lt (Nat.zero_le _) (room_lt (k := k) Hle.out Hid'.out)
        obtain ⟨go, cap, hv, hgo⟩ := own_form HownT.out hvt0
        injection hv with hv1 _ hv2
        subst hv1
        obtain rfl : cap = vc := hv2.symm
        clear hvt0
      all_goals
        go_wp2_with (at_lookup; refine wpList_lookup_own_int _ rfl _ _ 42 rfl 3 3 .i64 law3 Try.underlying42 Try.underlying3 (zero3 _) mb (k + 1) D' rfl HmapT.out _ _ rfl (keyOf_int_mk Try.underlying3 Hwfx.out) ?_)
        intro c hat _
        rw [HplT.out x (by omega) Hfx.out] at hat
        obtain rfl : c = (cnt (rootB f) x : Int) := by injection hat with hat; injection hat with _ hat; exact hat.symm
        clear hat
        have hqr : cnt (rootB f) x < (partsRoom k f).length := by rw [Hxe.out]; exact room_lt Hle.out Hid'.out
        have hat : (partsRoom k f)[cnt (rootB f) x]? = some (partAt k f x) := by rw [Hxe.out]; exact room_at Hle.out Hid'.out
        have Hnext : Hid (castP (partsL (k + 1) f) = (castP (partsRoom k f)).set (cnt (rootB f) x) (castL (partAt k f x) ++ [(k : Int)])) := by
          show _ = _
          rw [parts_step Hle.out Hid'.out, castP_set, castL_snoc, ← Hxe.out]
        generalize cnt (rootB f) x = q at *
        have hvtl : vt.length = (partsRoom k f).length := by rw [HfamT.out.1, castP_length]
        have hql : q < vt.length := by rw [hvtl]; exact hqr
        have hvt64 : vt.length ≤ 65 := by
          rw [hvtl, room_length]
          have := cnt_le (rootB f) (k + 1)
          omega
        have hu : vt[q]? = some vt[q] := List.getElem?_eq_getElem hql
        have hin := HfamT.out.2.1 q _ _ hu (castP_at hat)
        have hcu := HownT.out.cells (g := go) rfl q _ hu
        have hcu' : w3.cell? ⟨go, q, none⟩ = some vt[q] := by
          rw [← hcu]
          unfold Addr.add
          split <;> simp_all
        clear hcu
        have hpl : (castL (partAt k f x)).length ≤ 64 := by
          rw [castL_length]
          have := partAt_length k f x
          omega
        generalize vt[q] = u at *
        have hql' : (q : Int) < (vt.length : Int) := by omega
        obtain ⟨xs, hxs⟩ : ∃ xs, xs = ints (castL (partAt k f x)) := ⟨_, rfl⟩
        have hxl : xs.length = (castL (partAt k f x)).length := by rw [hxs, ints_length]
        rw [← hxs, ← hxl] at hin
        rw [← hxl] at hpl
        obtain ⟨uA, uc, rfl⟩ := own_slice hin
        have Hin := Lib.hid hin
        have Hu := Lib.hid hu
        have Hxs := Lib.hid hxs
        have Hxl := Lib.hid hxl
        clear hin hu hat hqr hvtl Hvl hxs hxl
        have hcell := (Blk.new w3 3 #[.int .i64 (k : Int)]).cell 0
        simp only [List.getElem?_toArray, List.getElem?_cons_zero] at hcell
        have Hcell := Lib.hid hcell
        clear hcell
        have hsz3 : (w3.alloc (.cells #[.int .i64 (k : Int)] 3)).heap.size = w3.heap.size + 1 := by simp
        have Hsz3 := Lib.hid hsz3
        have hub : ∀ i, (Value.slice uA xs.length uc).ownBlock = some i → mb + 1 ≤ i := fun i hi => (Hin.out.lt i hi).1
        have Hub := Lib.hid hub
        clear hsz3 hub
        go_wp2_with (at_builtin; refine wpList_append_cell rfl _ _ 24 3 (.int .i64 0) 8 rfl Try.underlying24 info3 rfl (mb + 1) _ (.int .i64 (k : Int)) xs rfl (Hin.out.alloc _) w3.heap.size rfl Hcell.out rfl (by omega) (by omega) (by rw [Hsz3.out]; omega) ?_)
        intro u5 w5 hin5 hgr5 hloc5
        have Hgr5' := Lib.hid ((World.grownBy_alloc w3 (.cells #[.int .i64 (k : Int)] 3) (Value.slice uA xs.length uc).ownBlock).trans hgr5)
        have hne5 : (Value.slice (some ⟨go, 0, none⟩) vt.length cap).ownBlock = none ∨ (Value.slice (some ⟨go, 0, none⟩) vt.length cap).ownBlock ≠ (Value.slice uA xs.length uc).ownBlock := own_ne HownT.out Hin.out (by decide)
        have Hown5 := Lib.hid (HownT.out.kept Hgr5'.out hne5)
        have hcg : w5.cell? ⟨go, q, none⟩ = some (.slice uA xs.length uc) := by rw [Hown5.out.cellAt q (by omega)]; exact Hu.out
        have hfg : w5.frozen? ⟨go, q, none⟩ = false := Hown5.out.frozenAt q
        have Hin5 := Lib.hid hin5
        have Hgr5 := Lib.hid hgr5
        have Hloc5 := Lib.hid hloc5
        obtain ⟨u5A, u5c, rfl⟩ := own_slice hin5
        clear hin5 hgr5 hloc5 hne5 hcu'
        have hsu : (w3.alloc (.cells #[.int .i64 (k : Int)] 3)).heap.size ≤ w5.heap.size := Hgr5.out.size
        have HfamE : Hid (Fam (w5.setCell ⟨go, q, none⟩ (.slice u5A (xs.length + 1) u5c)) (mb + 1) (vt.set q (.slice u5A (xs.length + 1) u5c)) (castP (partsL (k + 1) f))) := by
          show Fam _ _ _ _
          rw [Hnext.out]
          have hq : ints (castL (partAt k f x) ++ [(k : Int)]) = xs ++ [.int .i64 (k : Int)] := by rw [ints_append, Hxs.out]; rfl
          have h5 : Fam w5 (mb + 1) (vt.set q (.slice u5A (xs.length + 1) u5c)) ((castP (partsRoom k f)).set q (castL (partAt k f x) ++ [(k : Int)])) := by
            refine (HfamT.out.new (World.grownBy_alloc _ (.cells #[.int .i64 (k : Int)] 3) none)).grow Hu.out Hgr5.out ?_ (by rw [Hsz3.out]; exact Hloc5.out)
            rw [hq, List.length_append, ← Hxl.out]
            exact Hin5.out
          refine h5.kept (row := some go) (Hown5.out.stored q _).2 ?_
          intro v hv
          obtain ⟨i, hi, rfl⟩ := List.mem_iff_getElem.1 hv
          have hip : i < ((castP (partsRoom k f)).set q (castL (partAt k f x) ++ [(k : Int)])).length := by rw [← h5.1]; exact hi
          exact own_ne (h5.2.1 i _ _ (List.getElem?_eq_getElem hi) (List.getElem?_eq_getElem hip)) Hown5.out (by decide)
        have HownE : Hid ((w5.setCell ⟨go, q, none⟩ (.slice u5A (xs.length + 1) u5c)).ownsRow (mb + 1) 24 1 (.slice (some ⟨go, 0, none⟩) vt.length cap) (vt.set q (.slice u5A (xs.length + 1) u5c)).length (vt.set q (.slice u5A (xs.length + 1) u5c))) := by
          show World.ownsRow _ _ _ _ _ _ _
          rw [List.length_set]
          exact (Hown5.out.stored q _).1
        have HmapE : Hid ((w5.setCell ⟨go, q, none⟩ (.slice u5A (xs.length + 1) u5c)).ownsMap Try.prog 3 (plainElem Try.prog 3) mb (k + 1) D') := by
          refine (HmapT.out.kept Hgr5'.out ?_).kept (row := some go) (Hown5.out.stored q _).2 ?_
          · intro he
            have := Hub.out mb he.symm
            omega
          · intro he
            injection he with he
            omega
        have HbrE : Hid (Below mb w1 (w5.setCell ⟨go, q, none⟩ (.slice u5A (xs.length + 1) u5c))) := by
          refine (HbrT.out.grown Hgr5'.out (by omega) (fun i hi => by have := Hub.out i hi; omega)).setCell ?_ _
          show mb ≤ go
          omega
        have hsE : mb + 1 ≤ (w5.setCell ⟨go, q, none⟩ (.slice u5A (xs.length + 1) u5c)).heap.size := by
          have : w3.heap.size + 1 ≤ w5.heap.size := by rw [← Hsz3.out]; exact hsu
          simp [World.setCell]
          omega
        have HsE := Lib.hid hsE
        clear hsE hsu
        go_wp2
        go_roundw
        case rel => exact ⟨k + 1, _, D', by go_num, by omega, HownE.out, HfamE.out, HmapE.out, HplT.out, HbrE.out, HsE.out⟩
        case measure => simp [intOf]; omega
    · have hke : k = m := by omega
      have Hr2 := Lib.hid (Hfam.out.rows Hown.out)
      subst hke
      go_wp2
      go_ret2
      refine ⟨_, rfl, Hr2.out, Hb1.out.trans (Hbr.out.mono Hmbw.out)⟩

end Wp
end Go.Proofs.Ytfpfhnkboakejaa
