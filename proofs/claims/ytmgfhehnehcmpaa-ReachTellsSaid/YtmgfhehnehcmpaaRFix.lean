/- What Path answers is what is reckoned; the calls whose answers the document fixes. -/
import Derived.Test.YtmgfhehnehcmpaaRPath
import Derived.Test.YtmgfhehnehcmpaaKLit
import Derived.Test.YtmgfhehnehcmpaaSSame
namespace Go.Proofs.Ytmgfhehnehcmpaa
open Go.RowKit
namespace Wp

/-- The way back, reckoned. -/
def wayC (ah : Nat → Int) : Nat → Int → List Int → List Int
  | 0, _, acc => acc
  | f + 1, p, acc => if p = -2 then acc else wayC ah f (ah p.toNat) (p :: acc)
theorem way_is {adj : List (List Int)} {src come : List Int} {ah : Nat → Int} {par : Nat → Nat} (hd : Done adj src come ah par) {j : Nat} {l : List Int} (hw : Way come par src.length j l) : j < come.length → ∀ f acc, l.length ≤ f → wayC ah f (cAt come j) acc = l ++ acc := by
  induction hw with
  | start j hs =>
    intro hj f acc hf
    have h0 := (hd.pt _ (cAt_mem hj)).1
    match f, hf with
    | f + 1, _ =>
      unfold wayC
      rw [if_neg (by omega), hd.start j hs]
      match f with
      | 0 => rfl
      | f + 1 => unfold wayC; rw [if_pos rfl]; rfl
  | next j l hs hw ih =>
    intro hj f acc hf
    have h0 := (hd.pt _ (cAt_mem hj)).1
    obtain ⟨a1, _, a3, _⟩ := hd.old j hs hj
    rw [List.length_append, List.length_singleton] at hf
    match f, hf with
    | f + 1, hf =>
      unfold wayC
      rw [if_neg (by omega), a3, ih (by omega) f _ (by omega), List.append_assoc]
      rfl
def pathC (adj : List (List Int)) (src dst : List Int) : List Int × Bool :=
  if goodB adj src && okL adj.length dst then match (finS adj src).1.find? (fun x => decide (x ∈ dst)) with
    | some p => (wayC (finS adj src).2 adj.length p [], true)
    | none => ([], false)
  else ([], false)
theorem find_first {come : List Int} {q : Int → Bool} {j : Nat} (hj : j < come.length) (h : q (cAt come j) = true) (hn : ∀ i, i < j → q (cAt come i) = false) : come.find? q = some (cAt come j) := by
  have e : ∀ i (hi : i < come.length), cAt come i = come[i] := fun i hi => by unfold cAt; simp [List.getD, hi]
  rw [List.find?_eq_some_iff_getElem]
  refine ⟨h, j, hj, (e j hj).symm, fun i hi => ?_⟩
  rw [← e i (by omega), hn i hi]
  rfl
theorem path_eq {adj : List (List Int)} {src dst l : List Int} {b : Bool} (h : PathOK adj src dst l b) : (l, b) = pathC adj src dst := by
  unfold pathC
  rcases h with ⟨h0, rfl, rfl⟩ | ⟨h0, ⟨rfl, rfl, hno⟩ | ⟨rfl, j, hj, hin, hno, par, hd, hw⟩⟩
  · rw [h0]; rfl
  · rw [h0, if_pos rfl]
    have : (finS adj src).1.find? (fun x => decide (x ∈ dst)) = none := by
      rw [List.find?_eq_none]
      intro x hx
      simpa using hno x hx
    rw [this]
  · rw [h0, if_pos rfl, find_first hj (decide_eq_true hin) fun i hi => decide_eq_false (hno i hi)]
    have hlen := way_len hw (fun j h1 h2 => (hd.old j h1 h2).1) hj
    have := hd.len
    show (l, true) = (wayC (finS adj src).2 adj.length (cAt (finS adj src).1 j) [], true)
    rw [way_is hd hw hj _ [] (by omega), List.append_nil]

theorem path_is (adj : List (List Int)) (src dst l : List Int) (b : Bool) (h : pathC adj src dst = (l, b)) (v vf vt : Value) (w : World) (hr : Rows2 w w.heap.size v adj) (hf : Row w w.heap.size vf src) (ht : Row w w.heap.size vt dst) :
    Calls Try.prog 14 #[v, vf, vt] w fun e w' => ∃ u : Value, e = .returned (.tuple #[u, .bool b]) ∧ Row w' w'.heap.size u l ∧ Below w.heap.size w w' := by
  refine (path_any v vf vt adj src dst w hr hf ht).mono fun e w' ⟨u, l', b', he, hrow, hb, hok⟩ => ?_
  have e2 := path_eq hok
  rw [h] at e2
  injection e2 with e3 e4
  subst e3 e4
  exact ⟨u, he, hrow, hb⟩
theorem from_is (adj : List (List Int)) (src l : List Int) (h : fromL adj src = l) (v vf : Value) (w : World) (hr : Rows2 w w.heap.size v adj) (hf : Row w w.heap.size vf src) :
    Calls Try.prog 19 #[v, vf] w (Gives w l) := by
  subst h
  exact from_any v vf adj src w hr hf

end Wp
end Go.Proofs.Ytmgfhehnehcmpaa
