/- The greatest matching's numbers: the program's Max, walked. -/
import Derived.Test.YtmgfhehnehcmpaaKGreat
import Derived.Test.YtmgfhehnehcmpaaKMay
namespace Go.Proofs.Ytmgfhehnehcmpaa
open Go.RowKit
namespace Wp

/-- The lists are on the right: out of what May tells. -/
theorem onR_of_may {right : Int} {adj : List (List Int)} (h : mayM right adj = true) : OnR right.toNat adj := by
  unfold mayM at h
  rw [Bool.and_eq_true, Bool.and_eq_true, List.all_eq_true] at h
  intro i x hx
  have hi : i < adj.length := by
    rcases Nat.lt_or_ge i adj.length with hl | hl
    · exact hl
    · rw [List.getD_eq_getElem?_getD, List.getElem?_eq_none hl] at hx
      exact absurd hx (by simp)
  have hk := h.2 _ (List.getElem_mem hi)
  rw [show adj.getD i [] = adj[i] by simp [List.getD, hi]] at hx
  unfold okL at hk
  rw [Bool.and_eq_true, mayB_iff] at hk
  obtain ⟨⟨hs1, hs2⟩, hk⟩ := hk
  obtain ⟨m, hm, rfl⟩ := List.mem_iff_getElem.1 hx
  have h0 := (hs2 _ (List.getElem_mem hm)).1
  have hl : adj[i][m] ≤ adj[i].getD (adj[i].length - 1) 0 := by
    have e : adj[i].getD (adj[i].length - 1) 0 = adj[i][adj[i].length - 1]'(by omega) := by simp [List.getD, show adj[i].length - 1 < adj[i].length by omega]
    rw [e]
    rcases Nat.lt_or_ge m (adj[i].length - 1) with hlt | hge
    · exact Int.le_of_lt (List.pairwise_iff_getElem.1 hs1 m (adj[i].length - 1) hm (by omega) hlt)
    · have : m = adj[i].length - 1 := by omega
      subst this
      exact Int.le_refl _
  rw [decide_eq_false (by omega), Bool.false_or, decide_eq_true_iff] at hk
  exact ⟨adj[i][m].toNat, by omega, by omega⟩
theorem may_bounds {right : Int} {adj : List (List Int)} (h : mayM right adj = true) : 0 ≤ right ∧ right ≤ 64 ∧ adj.length ≤ 64 := by
  unfold mayM at h
  rw [Bool.and_eq_true, Bool.and_eq_true, decide_eq_true_iff, decide_eq_true_iff] at h
  exact ⟨h.1.1.1, h.1.1.2, h.1.2⟩
theorem kmay_is (right : Int) (v : Value) (adj : List (List Int)) (b : Bool) (h : mayM right adj = b) (w : World) (hr : Rows2 w w.heap.size v adj) :
    Calls Try.prog 11 #[.int .i64 right, v] w (Says w b) := by
  subst h
  exact kmay_any right v adj w hr

/-- What Max answers: nothing, of sides that may not be; else whom each has, of a greatest matching, and how many have one. -/
def MaxP (w : World) (right : Int) (adj : List (List Int)) (e : Ending) (w' : World) : Prop :=
  ∃ (v : Value) (l : List Int) (n : Nat), e = .returned (.tuple #[v, .int .i64 n]) ∧ Row w' w'.heap.size v l ∧ Below w.heap.size w w' ∧
    ((mayM right adj = false ∧ l = [] ∧ n = 0) ∨ (mayM right adj = true ∧ ∃ hs os, Great right.toNat adj hs os adj.length ∧ l = (List.range adj.length).map hs ∧ n = msize adj hs))

theorem nums_row {w : World} {g n : Nat} {f : Nat → Int} (h : NumsK w g n f) (hn : n ≤ maxLen) : Row w w.heap.size (.slice (some ⟨g, 0, none⟩) n n) ((List.range n).map f) := by
  refine ⟨some ⟨g, 0, none⟩, n, by simp, ⟨by simp, hn, fun h => (by cases h)⟩, fun k hk => ⟨_, rfl, World.rowIs.lt h, ?_⟩⟩
  have hk' : k < n := by simpa using hk
  have e : ((List.range n).map f).getD k 0 = f k := by simp [List.getD, hk']
  rw [e, ← World.rowIs.cell h hk']
  congr 1
  simp [Addr.add]
  try omega

theorem field1 (a b c : Value) (w : World) : Sem.run Try.prog (Instr.field 44 (.agg #[a, b, c]) 1) w = .ok b w := by
  kernel_rfl

set_option maxHeartbeats 4000000 in
set_option maxRecDepth 100000 in
theorem max_any (right : Int) (v : Value) (adj : List (List Int)) (w : World) (hr : Rows2 w w.heap.size v adj) :
    Calls Try.prog 9 #[.int .i64 right, v] w (MaxP w right adj) := by
  have Hr := Lib.hid hr
  obtain ⟨A, c, rfl, hcap, _⟩ := hr
  rcases hm : mayM right adj with _ | _
  · have Hm := Lib.hid hm
    clear hm
    go_enter Try.func9, Try.ntmps9
    go_wp2_with fail
    refine (kmay_is right _ adj false Hm.out w Hr.out).mono ?_
    rintro e w1 ⟨rfl, hb1⟩
    have Hb1 := Lib.hid hb1
    clear hb1
    go_wp2
    go_ret2
    exact ⟨_, [], 0, rfl, Row.nil_ _ _, Hb1.out, .inl ⟨Hm.out, rfl, rfl⟩⟩
  · have Hm := Lib.hid hm
    obtain ⟨hr0, hr64, hn64⟩ := may_bounds hm
    have HOn := Lib.hid (onR_of_may hm)
    clear hm
    obtain ⟨R, rfl⟩ : ∃ R : Nat, right = (R : Int) := ⟨right.toNat, by omega⟩
    have hR : R ≤ 64 := by omega
    have HeR : Hid ((R : Int).toNat = R) := Lib.hid (by omega)
    clear hr0 hr64
    go_enter Try.func9, Try.ntmps9
    go_wp2_with fail
    refine (kmay_is R _ adj true Hm.out w Hr.out).mono ?_
    rintro e w1 ⟨rfl, hb1⟩
    have Hb1 := Lib.hid hb1
    have Hr1 := Lib.hid (Hr.out.up hb1)
    clear hb1
    go_wp2_with fail
    refine (greatest_any R _ adj w1 Hr1.out (by rw [← HeR.out]; exact HOn.out) hR hn64).mono ?_
    rintro e w2 ⟨gh, go, hs, os, rfl, hh, _, _, _, _, hb2, hg⟩
    have Hb2 := Lib.hid (Hb1.out.trans (hb2.mono Hb1.out.size))
    have Hh := Lib.hid hh
    have Hg := Lib.hid hg
    clear hb2 hh hg Hb1 Hr1
    have hfd := fun W => field1 (.slice A adj.length c) (.slice (some ⟨gh, 0, none⟩) adj.length adj.length) (.slice (some ⟨go, 0, none⟩) R R) W
    go_wp2
    go_loopw [7, 20] (fun vm vi wr => ∃ k : Nat, vi = .int .i64 k ∧ vm = .int .i64 (cntP k fun i => decide (hs i ≠ -1)) ∧ k ≤ adj.length ∧ Below w2.heap.size w2 wr) (fun _ vi _ => adj.length - (intOf vi).toNat)
    case atStart => exact ⟨0, rfl, rfl, Nat.zero_le _, Below.refl _ _⟩
    case round =>
      obtain ⟨k, rfl, rfl, hk, hbr⟩ := hrel
      have Hbr := Lib.hid hbr
      have Hh2 := Lib.hid (Hh.out.below hbr)
      clear hbr
      by_cases hlt : k < adj.length
      · have hkI : (k : Int) < (adj.length : Int) := by omega
        have g1 := NumsK.at Hh2.out hlt
        have hc := cntP_le (fun i => decide (hs i ≠ -1)) k
        have Hs := Lib.hid (cntP_succ k fun i => decide (hs i ≠ -1))
        generalize cntP k (fun i => decide (hs i ≠ -1)) = q at *
        by_cases hx : hs k = -1
        · have Hs2 : Hid (cntP (k + 1) (fun i => decide (hs i ≠ -1)) = q) := Lib.hid (by rw [Hs.out, decide_eq_false (by simpa using hx)]; simp)
          rw [hx] at g1
          go_wp2
          go_roundw
          case rel => exact ⟨k + 1, by go_num, by rw [Hs2.out], by omega, Hbr.out⟩
          case measure => simp [intOf]; omega
        · have Hs2 : Hid (cntP (k + 1) (fun i => decide (hs i ≠ -1)) = q + 1) := Lib.hid (by rw [Hs.out, decide_eq_true (by simpa using hx)]; simp)
          generalize hs k = x at *
          go_wp2
          go_roundw
          case rel => exact ⟨k + 1, by go_num, by rw [Hs2.out]; go_num, by omega, Hbr.out⟩
          case measure => simp [intOf]; omega
      · have hkn : k = adj.length := by omega
        subst hkn
        go_wp2
        go_ret2
        exact ⟨_, _, _, rfl, nums_row Hh2.out (by unfold maxLen; omega), Hb2.out.trans (Hbr.out.mono Hb2.out.size), .inr ⟨Hm.out, hs, os, by rw [HeR.out]; exact Hg.out, rfl, rfl⟩⟩

end Wp
end Go.Proofs.Ytmgfhehnehcmpaa
