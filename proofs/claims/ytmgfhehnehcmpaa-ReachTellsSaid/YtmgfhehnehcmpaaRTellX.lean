/- The document's least, From and Path, walked. -/
import Derived.Test.YtmgfhehnehcmpaaRTellW
import Derived.Test.YtmgfhehnehcmpaaRFix
namespace Go.Proofs.Ytmgfhehnehcmpaa
open Go Go.RowKit
namespace Wp

theorem least_pt {adj : List (List Int)} {dst S : List Int} {i : Nat} {b : Int} (hS : Pts adj.length S) (h : LeastIs adj dst S i b) : b = -1 ∨ (0 ≤ b ∧ b < (adj.length : Int)) := by
  rcases h with ⟨e, _⟩ | ⟨_, h, _⟩
  · exact .inl e
  · exact .inr (hS.pt b (List.mem_of_mem_take h))
section
variable {adj : List (List Int)} (hd : digB adj = true)
include hd
set_option maxHeartbeats 8000000 in
set_option maxRecDepth 1000000 in
theorem r7least_any (v vl vt : Value) (S dst : List Int) (hS : Pts adj.length S) (ht : okL adj.length dst = true) (w : World) (hr : Rows2 w w.heap.size v adj) (hl : Row w w.heap.size vl S) (hf : Row w w.heap.size vt dst) :
    Calls Try.prog 39 #[v, vl, vt] w fun e w' => ∃ b : Int, e = .returned (.int .i64 b) ∧ LeastIs adj dst S S.length b ∧ Below w.heap.size w w' := by
  have HR := Lib.hid hr
  have HF := Lib.hid hf
  have HL := Lib.hid hl
  have HD := Lib.hid hd
  have HT := Lib.hid ht
  have HS := Lib.hid hS
  have hn4 := (digB_dig hd).2
  have hSl := pts_len hS
  have HST := Lib.hid (fun x (hx : x < adj.length) W (hW : Below w.heap.size w W) => r7steps_any hd v vt dst ht x hx W (hr.up hW) (hf.up hW))
  obtain ⟨A, c, rfl, _⟩ := hr
  obtain ⟨At, ct, rfl, _⟩ := hf
  obtain ⟨Al, cl, rfl, _⟩ := hl
  clear hd ht hS
  go_enter Try.func39, Try.ntmps39
  go_wp2
  go_loopw [7, 8] (fun vb vi wr => ∃ (i : Nat) (b : Int), vb = .int .i64 b ∧ vi = .int .i64 (i : Int) ∧ i ≤ S.length ∧ Hid (LeastIs adj dst S i b ∧ Below w.heap.size w wr)) (fun _ vi _ => S.length - (intOf vi).toNat)
  case atStart => exact ⟨0, -1, rfl, rfl, Nat.zero_le _, least_zero, Below.refl _ _⟩
  case round =>
    obtain ⟨i, b, rfl, rfl, hi, HI⟩ := hrel
    by_cases hlt : i < S.length
    · have hiI : (i : Int) < (S.length : Int) := by omega
      obtain ⟨x, hx, hxn⟩ := pts_at HS.out hlt
      obtain ⟨ad, hA, hc⟩ := (HL.out.up HI.out.2).readl i hlt
      subst hA
      rw [hx] at hc
      have HX := Lib.hid hx
      clear hx
      go_wp2_with fail
      refine (HST.out x hxn _ HI.out.2).mono ?_
      rintro e w5 ⟨s, rfl, hs, hb5⟩
      have HB5 := Lib.hid (below_next HI.out.2 (Nat.le_refl _) hb5)
      have HSS := Lib.hid hs
      have HSX : Hid (StepsIs adj dst (S.getD i 0) s) := Lib.hid (by rw [HX.out]; exact hs)
      obtain ⟨ad2, hA2, hc2⟩ := (HL.out.up HB5.out).readl i hlt
      injection hA2 with hA2
      subst hA2
      rw [HX.out] at hc2
      clear hs hb5 hc
      by_cases hneg : s < 0
      · have d1 : decide (0 ≤ s) = false := decide_eq_false (by omega)
        have HN := Lib.hid (least_never hlt HI.out.1 HSX.out hneg)
        go_wp2
        go_roundw
        case rel => exact ⟨i + 1, b, rfl, by go_num, by omega, HN.out, HB5.out⟩
        case measure => simp [intOf]; omega
      · have d1 : decide (0 ≤ s) = true := decide_eq_true (by omega)
        have hpos : 0 ≤ s := by omega
        rcases least_pt HS.out HI.out.1 with hb | ⟨hb0, hbn⟩
        · have HN := Lib.hid (least_first hlt HI.out.1 hb (fun y hy => (HS.out.pt y (List.mem_of_mem_take hy)).1) HSX.out hpos)
          have hb1 : b < 0 := by omega
          have d2 : decide (b < 0) = true := decide_eq_true hb1
          clear hb
          go_wp2
          go_roundw
          case rel => exact ⟨i + 1, (x : Int), rfl, by go_num, by omega, by rw [← HX.out]; exact HN.out, HB5.out⟩
          case measure => simp [intOf]; omega
        · obtain ⟨q, rfl⟩ : ∃ q : Nat, b = (q : Int) := ⟨b.toNat, by omega⟩
          have hqn : q < adj.length := by omega
          have d2 : decide ((q : Int) < 0) = false := decide_eq_false (by omega)
          have d3 : ¬ (q : Int) < 0 := by omega
          go_wp2_with fail
          refine (HST.out q hqn _ HB5.out).mono ?_
          rintro e w6 ⟨sb, rfl, hsb, hb6⟩
          have HB6 := Lib.hid (below_next HB5.out (Nat.le_refl _) hb6)
          have HSB := Lib.hid hsb
          obtain ⟨ad2, hA2, hc3⟩ := (HL.out.up HB6.out).readl i hlt
          injection hA2 with hA2
          subst hA2
          rw [HX.out] at hc3
          clear hsb hb6 hc2
          by_cases hbet : s < sb
          · have HN := Lib.hid (least_better hlt HI.out.1 hb0 HSB.out HSX.out hpos hbet)
            go_wp2
            go_roundw
            case rel => exact ⟨i + 1, (x : Int), rfl, by go_num, by omega, by rw [← HX.out]; exact HN.out, HB6.out⟩
            case measure => simp [intOf]; omega
          · have HN := Lib.hid (least_keep HS.out.up hlt HI.out.1 hb0 HSB.out HSX.out hpos hbet)
            go_wp2
            go_roundw
            case rel => exact ⟨i + 1, (q : Int), rfl, by go_num, by omega, HN.out, HB6.out⟩
            case measure => simp [intOf]; omega
    · have hie : i = S.length := by omega
      clear hlt hi
      subst hie
      go_wp2
      go_ret
      exact ⟨_, rfl, HI.out.1, HI.out.2⟩
end

set_option maxHeartbeats 8000000 in
set_option maxRecDepth 1000000 in
theorem r7from_is (v vf : Value) (adj : List (List Int)) (src : List Int) (w : World) (hr : Rows2 w w.heap.size v adj) (hf : Row w w.heap.size vf src) (hsl : src.length ≤ 1048576) :
    Calls Try.prog 20 #[v, vf] w (Gives w (fromL adj src)) := by
  have HR := Lib.hid hr
  have HF := Lib.hid hf
  obtain ⟨A, c, rfl, _⟩ := hr
  obtain ⟨Al, cl, rfl, _⟩ := hf
  rcases h1 : digB adj with _ | _
  · have HN := Lib.hid (show fromL adj src = [] by unfold fromL; rw [good_no1 h1]; rfl)
    have H1 := Lib.hid h1
    clear h1
    go_enter Try.func20, Try.ntmps20
    go_wp2_with fail
    refine (r7may_is _ adj false H1.out _ HR.out).mono ?_
    rintro e w1 ⟨rfl, hb1⟩
    have HB1 := Lib.hid hb1
    clear hb1
    go_wp2
    go_ret
    exact ⟨_, rfl, by rw [HN.out]; exact Row.nil_ _ _, HB1.out⟩
  · rcases h2 : okL adj.length src with _ | _
    · have HN := Lib.hid (show fromL adj src = [] by unfold fromL; rw [good_no2 h2]; rfl)
      have H1 := Lib.hid h1
      have H2 := Lib.hid h2
      clear h1 h2
      go_enter Try.func20, Try.ntmps20
      go_wp2_with fail
      refine (r7may_is _ adj true H1.out _ HR.out).mono ?_
      rintro e w1 ⟨rfl, hb1⟩
      have HB1 := Lib.hid hb1
      clear hb1
      go_wp2_with fail
      refine (r7points_is adj.length _ src false H2.out _ (HF.out.up HB1.out)).mono ?_
      rintro e w2 ⟨rfl, hb2⟩
      have HB2 := Lib.hid (below_next HB1.out (Nat.le_refl _) hb2)
      clear hb2
      go_wp2
      go_ret
      exact ⟨_, rfl, by rw [HN.out]; exact Row.nil_ _ _, HB2.out⟩
    · have HIT := Lib.hid (from_it h1 h2)
      have hn4 := (digB_dig h1).2
      have hsn := pts_len (ok_pts h2)
      have H1 := Lib.hid h1
      have H2 := Lib.hid h2
      clear h1 h2
      go_enter Try.func20, Try.ntmps20
      go_wp2_with fail
      refine (r7may_is _ adj true H1.out _ HR.out).mono ?_
      rintro e w1 ⟨rfl, hb1⟩
      have HB1 := Lib.hid hb1
      clear hb1
      go_wp2_with fail
      refine (r7points_is adj.length _ src true H2.out _ (HF.out.up HB1.out)).mono ?_
      rintro e w2 ⟨rfl, hb2⟩
      have HB2 := Lib.hid (below_next HB1.out (Nat.le_refl _) hb2)
      have hown0 : (w2.alloc (.cells #[] 3)).ownsRow w2.heap.size 3 1 (.slice (some ⟨w2.heap.size, 0, none⟩) 0 0) 0 [] :=
        World.ownsRow_made w2 #[] 0 (Nat.le_refl _) (by unfold maxLen; omega) rfl
      have HB3 : Hid (Below w2.heap.size w2 (w2.alloc (.cells #[] 3))) := Lib.hid ((Below.refl _ w2).alloc (Nat.le_refl _) _)
      have HF3 := Lib.hid ((HF.out.up HB2.out).up HB3.out)
      clear hb2
      go_wp2_with (at_builtin; refine wpList_append_row rfl _ _ rfl w2.heap.size _ _ _ [] src rfl rfl hown0 HF3.out (by simp) (by omega) (by simp) ?_)
      intro v4 w4 hown4 hg4
      have hb4 : Below w2.heap.size w2 w4 := HB3.out.grown hg4 (by simp) (fun i hi => (World.ownsRow.lt hown0 i hi).1)
      have HR4 : Hid (Row w4 w4.heap.size v4 src) := Lib.hid (Row.of_own hown4 (by simp))
      have HB4 := Lib.hid (below_next HB2.out (Nat.le_refl _) hb4)
      clear hown4 hg4 hb4 hown0
      go_wp2
      go_loopw [5, 6] (fun vo vi wr => ∃ k : Nat, vi = .int .i64 (k : Int) ∧ k ≤ adj.length ∧ Hid (Row wr wr.heap.size vo (itL adj src k) ∧ Below w.heap.size w wr)) (fun _ vi _ => adj.length - (intOf vi).toNat)
      case atStart => exact ⟨0, rfl, Nat.zero_le _, HR4.out, HB4.out⟩
      case round =>
        obtain ⟨k, rfl, hk, HS⟩ := hrel
        by_cases hlt : k < adj.length
        · have hkI : (k : Int) < (adj.length : Int) := by omega
          go_wp2_with fail
          refine (r7near_any H1.out _ _ (itL adj src k) (itL_ok H1.out (ok_pts H2.out) k) _ (HR.out.up HS.out.2) HS.out.1).mono ?_
          rintro e w6 ⟨v6, rfl, hr6, hb6⟩
          have H6 := Lib.hid hr6
          have HB6 := Lib.hid (below_next HS.out.2 (Nat.le_refl _) hb6)
          clear hr6 hb6
          go_wp2
          go_roundw
          case rel => exact ⟨k + 1, by go_num, by omega, H6.out, HB6.out⟩
          case measure => simp [intOf]; omega
        · have hke : k = adj.length := by omega
          clear hlt hk
          subst hke
          go_wp2
          go_ret
          exact ⟨_, rfl, by rw [← HIT.out]; exact HS.out.1, HS.out.2⟩

/-- Behind what has been told the rest of the way. -/
structure Rest (adj : List (List Int)) (dst l out : List Int) (x : Int) : Prop where
  ex : ∃ S m rest, Greedy adj dst S m (x :: rest) ∧ l = out ++ rest
theorem Rest.end_ {adj : List (List Int)} {dst l out : List Int} {x : Int} (h : Rest adj dst l out x) (hx : x ∈ dst) : out = l := by
  obtain ⟨S, m, rest, hg, e⟩ := h.ex
  cases hg with
  | stop => rw [e, List.append_nil]
  | step _ _ n _ h1 _ h3 _ _ => exact absurd (near_mono (Nat.zero_le n) hx) (h3 x h1)
theorem Rest.next {adj : List (List Int)} {dst l out : List Int} {x : Int} (h : Rest adj dst l out x) (hx : x ∉ dst) {b : Int} (hb : LeastIs adj dst (adj.getD x.toNat []) (adj.getD x.toNat []).length b) : Rest adj dst l (out ++ [b]) b ∧ out.length + 1 ≤ l.length ∧ b ∈ adj.getD x.toNat [] := by
  obtain ⟨S, m, rest, hg, e⟩ := h.ex
  cases hg with
  | stop _ _ _ h2 _ => exact absurd h2 hx
  | step _ _ n rest h1 h2 h3 h4 hg =>
    match rest, hg with
    | [], hg => exact absurd hg.length (by simp)
    | y :: rest, hg =>
      have hy := least_greedy hg hb
      subst hy
      exact ⟨⟨_, _, rest, hg, by rw [e, List.append_assoc]; rfl⟩, by rw [e, List.length_append, List.length_cons]; omega, hg.mem⟩

set_option maxHeartbeats 8000000 in
set_option maxRecDepth 1000000 in
theorem r7path_off (adj : List (List Int)) (src dst : List Int) (hg : digB adj = false ∨ (digB adj = true ∧ okL adj.length src = false) ∨ (digB adj = true ∧ okL adj.length src = true ∧ okL adj.length dst = false)) (v vf vt : Value) (w : World) (hr : Rows2 w w.heap.size v adj) (hf : Row w w.heap.size vf src) (ht : Row w w.heap.size vt dst) :
    Calls Try.prog 15 #[v, vf, vt] w fun e w' => ∃ u : Value, e = .returned (.tuple #[u, .bool false]) ∧ Row w' w'.heap.size u [] ∧ Below w.heap.size w w' := by
  have HR := Lib.hid hr
  have HF := Lib.hid hf
  have HTT := Lib.hid ht
  obtain ⟨A, c, rfl, _⟩ := hr
  obtain ⟨Al, cl, rfl, _⟩ := hf
  obtain ⟨At, ct, rfl, _⟩ := ht
  rcases hg with h1 | ⟨h1, h2⟩ | ⟨h1, h2, h3⟩
  · have H1 := Lib.hid h1
    clear h1
    go_enter Try.func15, Try.ntmps15
    go_wp2_with fail
    refine (r7may_is _ adj false H1.out _ HR.out).mono ?_
    rintro e w1 ⟨rfl, hb1⟩
    have HB1 := Lib.hid hb1
    clear hb1
    go_wp2
    go_ret2
    exact ⟨_, rfl, Row.nil_ _ _, HB1.out⟩
  · have H1 := Lib.hid h1
    have H2 := Lib.hid h2
    clear h1 h2
    go_enter Try.func15, Try.ntmps15
    go_wp2_with fail
    refine (r7may_is _ adj true H1.out _ HR.out).mono ?_
    rintro e w1 ⟨rfl, hb1⟩
    have HB1 := Lib.hid hb1
    clear hb1
    go_wp2_with fail
    refine (r7points_is adj.length _ src false H2.out _ (HF.out.up HB1.out)).mono ?_
    rintro e w2 ⟨rfl, hb2⟩
    have HB2 := Lib.hid (below_next HB1.out (Nat.le_refl _) hb2)
    clear hb2
    go_wp2
    go_ret2
    exact ⟨_, rfl, Row.nil_ _ _, HB2.out⟩
  · have H1 := Lib.hid h1
    have H2 := Lib.hid h2
    have H3 := Lib.hid h3
    clear h1 h2 h3
    go_enter Try.func15, Try.ntmps15
    go_wp2_with fail
    refine (r7may_is _ adj true H1.out _ HR.out).mono ?_
    rintro e w1 ⟨rfl, hb1⟩
    have HB1 := Lib.hid hb1
    clear hb1
    go_wp2_with fail
    refine (r7points_is adj.length _ src true H2.out _ (HF.out.up HB1.out)).mono ?_
    rintro e w2 ⟨rfl, hb2⟩
    have HB2 := Lib.hid (below_next HB1.out (Nat.le_refl _) hb2)
    clear hb2
    go_wp2_with fail
    refine (r7points_is adj.length _ dst false H3.out _ (HTT.out.up HB2.out)).mono ?_
    rintro e w3 ⟨rfl, hb3⟩
    have HB3 := Lib.hid (below_next HB2.out (Nat.le_refl _) hb3)
    clear hb3
    go_wp2
    go_ret2
    exact ⟨_, rfl, Row.nil_ _ _, HB3.out⟩

set_option maxHeartbeats 8000000 in
set_option maxRecDepth 1000000 in
theorem r7path_on (adj : List (List Int)) (src dst l : List Int) (b : Bool) (h1 : digB adj = true) (h2 : okL adj.length src = true) (h3 : okL adj.length dst = true) (hok : PathOK adj src dst l b) (v vf vt : Value) (w : World) (hr : Rows2 w w.heap.size v adj) (hf : Row w w.heap.size vf src) (ht : Row w w.heap.size vt dst) :
    Calls Try.prog 15 #[v, vf, vt] w fun e w' => ∃ u : Value, e = .returned (.tuple #[u, .bool b]) ∧ Row w' w'.heap.size u l ∧ Below w.heap.size w w' := by
  have HR := Lib.hid hr
  have HF := Lib.hid hf
  have HTT := Lib.hid ht
  have HPF := Lib.hid (path_pf h1 h2 h3 hok)
  have hn4 := (digB_dig h1).2
  have hsn := pts_len (ok_pts h2)
  have htn := pts_len (ok_pts h3)
  have hln := HPF.out.len
  have H1 := Lib.hid h1
  have H2 := Lib.hid h2
  have H3 := Lib.hid h3
  have HOK := Lib.hid hok
  obtain ⟨A, c, rfl, _⟩ := hr
  obtain ⟨Al, cl, rfl, _⟩ := hf
  obtain ⟨At, ct, rfl, _⟩ := ht
  clear h1 h2 h3 hok
  go_enter Try.func15, Try.ntmps15
  go_wp2_with fail
  refine (r7may_is _ adj true H1.out _ HR.out).mono ?_
  rintro e w1 ⟨rfl, hb1⟩
  have HB1 := Lib.hid hb1
  clear hb1
  go_wp2_with fail
  refine (r7points_is adj.length _ src true H2.out _ (HF.out.up HB1.out)).mono ?_
  rintro e w2 ⟨rfl, hb2⟩
  have HB2 := Lib.hid (below_next HB1.out (Nat.le_refl _) hb2)
  clear hb2
  go_wp2_with fail
  refine (r7points_is adj.length _ dst true H3.out _ (HTT.out.up HB2.out)).mono ?_
  rintro e w3 ⟨rfl, hb3⟩
  have HB3 := Lib.hid (below_next HB2.out (Nat.le_refl _) hb3)
  clear hb3
  go_wp2_with fail
  refine (r7least_any H1.out _ _ _ src dst (ok_pts H2.out) H3.out _ (HR.out.up HB3.out) (HF.out.up HB3.out) (HTT.out.up HB3.out)).mono ?_
  rintro e w4 ⟨x0, rfl, hx0, hb4⟩
  have HB4 := Lib.hid (below_next HB3.out (Nat.le_refl _) hb4)
  have HX0 := Lib.hid hx0
  clear hb4 hx0
  cases b with
  | false =>
    have hl : l = [] := by
      have := HPF.out.pos
      rcases Nat.eq_zero_or_pos l.length with h | h
      · exact List.eq_nil_of_length_eq_zero h
      · exact absurd (this.2 h) (by decide)
    subst hl
    have hx := no_least H1.out H2.out H3.out HOK.out HX0.out
    have d1 : x0 < 0 := by omega
    clear hx
    go_wp2
    go_ret2
    exact ⟨_, rfl, Row.nil_ _ _, HB4.out⟩
  | true =>
    obtain ⟨n, hg⟩ := path_greedy H2.out HOK.out
    obtain ⟨y, rest, hlr⟩ : ∃ y rest, l = y :: rest := by
      cases l with
      | nil => exact absurd hg.length (by simp)
      | cons y rest => exact ⟨y, rest, rfl⟩
    rw [hlr] at hg
    have hy := least_greedy hg HX0.out
    subst hy
    have hx0p := (ok_pts H2.out).pt x0 hg.mem
    have HRest : Hid (Rest adj dst l [x0] x0) := Lib.hid ⟨src, n, rest, hg, hlr⟩
    obtain ⟨x, rfl⟩ : ∃ x : Nat, x0 = (x : Int) := ⟨x0.toNat, by omega⟩
    have hxn : x < adj.length := by omega
    have d1 : ¬ (x : Int) < 0 := by omega
    have hown0 : (w4.alloc (.cells #[.int .i64 (x : Int)] 3)).ownsRow w4.heap.size 3 1 (.slice (some ⟨w4.heap.size, 0, none⟩) 1 1) [(x : Int)].length (ints [(x : Int)]) :=
      ⟨rfl, .inr ⟨w4.heap.size, 1, _, rfl, Nat.le_refl _, heap_alloc_new w4 _, Nat.le_refl _, by decide, rfl, rfl⟩⟩
    have HO0 := Lib.hid hown0
    have HB5 : Hid (Below w4.heap.size w4 (w4.alloc (.cells #[.int .i64 (x : Int)] 3))) := Lib.hid ((Below.refl _ w4).alloc (Nat.le_refl _) _)
    have hL1 : 1 ≤ l.length := by rw [hlr]; simp
    clear hg hx0p hown0 hlr HX0 HOK
    go_wp2
    go_loopw [8, 9] (fun vx vo wr => ∃ (x : Nat) (out : List Int), vx = .int .i64 (x : Int) ∧ x < adj.length ∧ out.length ≤ l.length ∧ lenOf vo = out.length ∧ Hid (Rest adj dst l out (x : Int) ∧ wr.ownsRow w4.heap.size 3 1 vo out.length (ints out) ∧ Below w4.heap.size w4 wr)) (fun _ vo _ => l.length - lenOf vo)
    case atStart => exact ⟨x, [(x : Int)], rfl, hxn, hL1, rfl, HRest.out, HO0.out, HB5.out⟩
    case round =>
      obtain ⟨x, out, rfl, hxn, hol, hlo, HS⟩ := hrel
      have HBW := Lib.hid (below_next HB4.out (Nat.le_refl _) (HS.out.2.2.mono (Nat.le_refl _)))
      have hsz4 := HS.out.2.2.size
      rcases hh : hasB dst (x : Int) with _ | _
      · have HH := Lib.hid hh
        have hnx : (x : Int) ∉ dst := fun h => by
          rw [(has_iff (ok_set H3.out) _).2 h] at hh
          cases hh
        have HNX := Lib.hid hnx
        have hxI : (x : Int) < (adj.length : Int) := by omega
        clear hh hnx
        go_wp2_with fail
        refine (refhas_any _ dst (x : Int) _ (HTT.out.up HBW.out) (by omega)).mono ?_
        rintro e w6 ⟨rfl, hb6⟩
        rw [HH.out]
        have HB6 := Lib.hid (below_next HBW.out (Nat.le_refl _) hb6)
        have HBO := Lib.hid (HS.out.2.2.trans (hb6.mono hsz4))
        have HOW := Lib.hid (World.ownsRow.kept HS.out.2.1 (only_of_below hb6 none) (by cases hv : (Value.ownBlock _) <;> simp))
        obtain ⟨ada, ua, hAa, hca, hru⟩ := (HR.out.up HB6.out).read x hxn
        subst hAa
        have HRU := Lib.hid hru
        clear hb6 hru
        go_wp2_with fail
        refine (r7least_any H1.out _ _ _ (adj.getD x []) dst ⟨(digB_dig H1.out).1.up x, (digB_dig H1.out).1.pt x⟩ H3.out _ (HR.out.up HB6.out) HRU.out (HTT.out.up HB6.out)).mono ?_
        rintro e w7 ⟨z, rfl, hz, hb7⟩
        have hnext := HS.out.1.next HNX.out (b := z) (by rw [Int.toNat_natCast]; exact hz)
        rw [Int.toNat_natCast] at hnext
        obtain ⟨hr1, hr2, hr3⟩ := hnext
        have hzp := (digB_dig H1.out).1.pt x z hr3
        obtain ⟨q, rfl⟩ : ∃ q : Nat, z = (q : Int) := ⟨z.toNat, by omega⟩
        have hqn : q < adj.length := by omega
        have hs67 : w4.heap.size ≤ w6.heap.size := HBO.out.size
        have HBO7 := Lib.hid (HBO.out.trans (hb7.mono hs67))
        have HOW7 := Lib.hid (World.ownsRow.kept HOW.out (only_of_below hb7 none) (by cases hv : (Value.ownBlock _) <;> simp))
        have HR1 := Lib.hid hr1
        have hs7 : w4.heap.size ≤ w7.heap.size := HBO7.out.size
        clear hz hb7 hr1 hr3 hzp hca
        go_wp2_with (at_builtin; refine wpList_append_row rfl _ _ rfl w4.heap.size _ _ _ out [(q : Int)] rfl rfl (World.ownsRow.alloc HOW7.out _) (Row.lit1 _ (q : Int)) (by omega) (by simp) (by simp; omega) ?_)
        intro v8 w8 hown8 hg8
        have hown8' : w8.ownsRow w4.heap.size 3 1 v8 (out ++ [(q : Int)]).length (ints (out ++ [(q : Int)])) := by rw [List.length_append]; exact hown8
        have hb8 : Below w4.heap.size w4 w8 := (HBO7.out.alloc hs7 _).grown hg8 (by simp; omega) (fun i hi => (World.ownsRow.lt HOW7.out i hi).1)
        have hlen8 : lenOf v8 = out.length + 1 := by
          rcases hown8.2 with ⟨_, h0⟩ | ⟨_, _, _, hv, _⟩
          · simp at h0
          · rw [hv]; simp [lenOf]
        have HO8 := Lib.hid hown8'
        have HB8 := Lib.hid hb8
        clear hown8 hown8' hg8 hb8
        go_wp2
        go_roundw
        case rel => exact ⟨q, out ++ [(q : Int)], rfl, hqn, by rw [List.length_append]; simp; omega, by rw [List.length_append]; simp; omega, HR1.out, HO8.out, HB8.out⟩
        case measure =>
          change l.length - lenOf v8 < l.length - lenOf _
          omega
      · have HH := Lib.hid hh
        have hin : (x : Int) ∈ dst := (has_iff (ok_set H3.out) _).1 hh
        have HE := Lib.hid (HS.out.1.end_ hin)
        clear hh hin
        go_wp2_with fail
        refine (refhas_any _ dst (x : Int) _ (HTT.out.up HBW.out) (by omega)).mono ?_
        rintro e w6 ⟨rfl, hb6⟩
        rw [HH.out]
        have HB6 := Lib.hid (below_next HBW.out (Nat.le_refl _) hb6)
        have HOW := Lib.hid (World.ownsRow.kept HS.out.2.1 (only_of_below hb6 none) (by cases hv : (Value.ownBlock _) <;> simp))
        clear hb6
        go_wp2
        go_ret2
        exact ⟨_, rfl, by rw [← HE.out]; exact Row.of_own HOW.out rfl, HB6.out⟩

theorem r7path_is (adj : List (List Int)) (src dst l : List Int) (b : Bool) (h : pathC adj src dst = (l, b)) (v vf vt : Value) (w : World) (hr : Rows2 w w.heap.size v adj) (hf : Row w w.heap.size vf src) (ht : Row w w.heap.size vt dst) :
    Calls Try.prog 15 #[v, vf, vt] w fun e w' => ∃ u : Value, e = .returned (.tuple #[u, .bool b]) ∧ Row w' w'.heap.size u l ∧ Below w.heap.size w w' := by
  have off : (digB adj = false ∨ (digB adj = true ∧ okL adj.length src = false) ∨ (digB adj = true ∧ okL adj.length src = true ∧ okL adj.length dst = false)) → (goodB adj src && okL adj.length dst) = false → l = [] ∧ b = false := fun _ hg => by
    have := path_eq (cpath_no hg)
    rw [h] at this
    injection this with e1 e2
    exact ⟨e1.symm, e2.symm⟩
  rcases h1 : digB adj with _ | _
  · obtain ⟨rfl, rfl⟩ := off (.inl h1) (by rw [good_no1 h1]; rfl)
    exact r7path_off adj src dst (.inl h1) v vf vt w hr hf ht
  · rcases h2 : okL adj.length src with _ | _
    · obtain ⟨rfl, rfl⟩ := off (.inr (.inl ⟨h1, h2⟩)) (by rw [good_no2 h2]; rfl)
      exact r7path_off adj src dst (.inr (.inl ⟨h1, h2⟩)) v vf vt w hr hf ht
    · rcases h3 : okL adj.length dst with _ | _
      · obtain ⟨rfl, rfl⟩ := off (.inr (.inr ⟨h1, h2, h3⟩)) (by rw [h3, Bool.and_false])
        exact r7path_off adj src dst (.inr (.inr ⟨h1, h2, h3⟩)) v vf vt w hr hf ht
      · obtain ⟨l', b', e, hok⟩ := path_ok_ex h1 h2 h3
        rw [h] at e
        injection e with e1 e2
        subst e1 e2
        exact r7path_on adj src dst l b h1 h2 h3 hok v vf vt w hr hf ht

end Wp
end Go.Proofs.Ytmgfhehnehcmpaa
