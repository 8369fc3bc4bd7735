/- The program's merge: two parts made one, in place: walked. -/
import Derived.Test.YtfpfhnkboakejaaJGraph
namespace Go.Proofs.Ytfpfhnkboakejaa
open Go.RowKit
namespace Wp

/-- Labels in a block. -/
def Labels (w : World) (g n : Nat) (f : Nat → Nat) : Prop := w.rowIs g 3 n fun i => .int .i64 (f i : Int)
theorem Labels.congr {w : World} {g n : Nat} {f f' : Nat → Nat} (h : Labels w g n f) (e : ∀ i, i < n → f i = f' i) : Labels w g n f' := World.rowIs.congr h fun i hi => by rw [e i hi]
theorem Labels.set {w : World} {g n : Nat} {f : Nat → Nat} (h : Labels w g n f) (i : Nat) (v : Nat) : Labels (w.setCell ⟨g, i, none⟩ (.int .i64 (v : Int))) g n (fun j => if j = i then v else f j) :=
  World.rowIs.congr (World.rowIs.set h i _) fun j _ => by
    by_cases hj : j = i
    · simp only [hj, if_pos]
    · simp only [hj, if_false]

/-- A call without results that turns one block of labels. -/
def Merged (w : World) (g n : Nat) (f : Nat → Nat) (e : Ending) (w' : World) : Prop := e = .returned (.tuple #[]) ∧ Labels w' g n f ∧ w.grownBy w' (some g)

theorem merge_upto {f f' : Nat → Nat} {lo hi k : Nat} (h : f' = fun v => if f v = hi then lo else f v) :
    (f k = hi → (fun j => if j = k then lo else if j < k then f' j else f j) = fun j => if j < k + 1 then f' j else f j) ∧ (f k ≠ hi → (fun j => if j < k then f' j else f j) = fun j => if j < k + 1 then f' j else f j) := by
  subst h
  constructor
  · intro hk
    funext j
    by_cases hj : j = k
    · subst hj; simp [hk]
    · by_cases hlt : j < k
      · simp [hj, hlt, show j < k + 1 by omega]
      · simp [hj, hlt, show ¬ j < k + 1 by omega]
  · intro hk
    funext j
    by_cases hj : j = k
    · subst hj; simp [hk]
    · by_cases hlt : j < k
      · simp [hlt, show j < k + 1 by omega]
      · simp [hlt, show ¬ j < k + 1 by omega]

set_option maxHeartbeats 4000000 in
set_option maxRecDepth 100000 in
theorem merge_in (g n : Nat) (f f' : Nat → Nat) (a b lo hi : Nat) (hf' : f' = fun v => if f v = hi then lo else f v) (hlh : lo < hi) (hab : (lo = a ∧ hi = b) ∨ (hi = a ∧ lo = b)) (w : World) (hf : Labels w g n f) (hn : n ≤ 64) :
    Calls Try.prog 24 #[.slice (some ⟨g, 0, none⟩) n n, .int .i64 a, .int .i64 b] w (Merged w g n f') := by
  have Hf := Lib.hid hf
  clear hf
  have Hs := Lib.hid (fun k => merge_upto (k := k) hf')
  clear hf'
  have hn' : (n : Int) ≤ 64 := by omega
  have hne1 : ((lo : Int) == (hi : Int)) = false := by rw [beq_eq_false_iff_ne]; omega
  have hne2 : ((hi : Int) == (lo : Int)) = false := by rw [beq_eq_false_iff_ne]; omega
  have hnl : ¬ hi < lo := by omega
  rcases hab with ⟨h1, h2⟩ | ⟨h1, h2⟩
  all_goals
    subst h1
    subst h2
    go_enter Try.func24, Try.ntmps24
    go_wp2
    go_loopw [21] (fun vk wr => ∃ k : Nat, vk = .int .i64 k ∧ k ≤ n ∧ Labels wr g n (fun j => if j < k then f' j else f j) ∧ w.grownBy wr (some g)) (fun vk _ => n - (intOf vk).toNat)
    case atStart => exact ⟨0, rfl, Nat.zero_le _, Hf.out.congr (fun i _ => by simp), World.grownBy.refl _ _⟩
    case round =>
      obtain ⟨k, rfl, hk, hlab, hgr⟩ := hrel
      have Hlab := Lib.hid hlab
      have Hgr := Lib.hid hgr
      clear hlab hgr
      by_cases hlt : k < n
      · have hc : wr.cell? ⟨g, k, none⟩ = some (.int .i64 (f k : Int)) := by
          have := Hlab.out.cell hlt
          simpa using this
        have hfz : wr.frozen? ⟨g, k, none⟩ = false := Hlab.out.frozen k
        have Hs1 := Lib.hid (Hs.out k).1
        have Hs2 := Lib.hid (Hs.out k).2
        have Hset := Lib.hid (fun v => Hlab.out.set k v)
        generalize f k = x at hc Hs1 Hs2
        by_cases hx : x = hi
        · subst hx
          go_wp2
          go_roundw
          case rel =>
            refine ⟨k + 1, by go_num, by omega, ?_, only_setCell Hgr.out (.inl rfl) _⟩
            rw [← Hs1.out rfl]
            exact Hset.out _
          case measure => simp [intOf]; omega
        · have hxf : ((x : Int) == (hi : Int)) = false := by rw [beq_eq_false_iff_ne]; omega
          go_wp2
          go_roundw
          case rel => exact ⟨k + 1, by go_num, by omega, by rw [← Hs2.out hx]; exact Hlab.out, Hgr.out⟩
          case measure => simp [intOf]; omega
      · have hke : k = n := by omega
        subst hke
        go_wp2
        go_end0
        exact ⟨rfl, Hlab.out.congr (fun i hi => by simp [hi]), Hgr.out⟩

set_option maxHeartbeats 4000000 in
set_option maxRecDepth 100000 in
theorem merge_any (g n : Nat) (f : Nat → Nat) (a b : Nat) (w : World) (hf : Labels w g n f) (hn : n ≤ 64) :
    Calls Try.prog 24 #[.slice (some ⟨g, 0, none⟩) n n, .int .i64 a, .int .i64 b] w (Merged w g n (mergeF f a b)) := by
  rcases Nat.lt_trichotomy a b with hab | hab | hab
  · refine merge_in g n f _ a b a b ?_ hab (.inl ⟨rfl, rfl⟩) w hf hn
    funext v
    unfold mergeF
    rw [Nat.max_eq_right (by omega), Nat.min_eq_left (by omega)]
  · subst hab
    rw [merge_same]
    have Hf := Lib.hid hf
    clear hf
    have hn' : (n : Int) ≤ 64 := by omega
    go_enter Try.func24, Try.ntmps24
    go_wp2
    refine bodyPost_ret (results_none rfl _ _ _) rfl ?_
    exact ⟨rfl, Hf.out, World.grownBy.refl _ _⟩
  · refine merge_in g n f _ a b b a ?_ hab (.inr ⟨rfl, rfl⟩) w hf hn
    funext v
    unfold mergeF
    rw [Nat.max_eq_left (by omega), Nat.min_eq_right (by omega)]

end Wp
end Go.Proofs.Ytfpfhnkboakejaa
