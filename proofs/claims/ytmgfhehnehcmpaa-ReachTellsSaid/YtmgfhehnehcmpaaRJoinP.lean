/- What is come to from some, plain; one set in another, asked. -/
import Derived.Test.YtmgfhehnehcmpaaRPath
import Derived.Test.YtmgfhehnehcmpaaR7May
import Derived.Test.YtmgfhehnehcmpaaSRefU
namespace Go.Proofs.Ytmgfhehnehcmpaa
open Go.RowKit
namespace Wp

theorem pts_len {n : Nat} {l : List Int} (h : Pts n l) : l.length ≤ n := by
  have := nodup_le (b := (List.range n).map Int.ofNat) (h.up.imp fun hab e => by omega) fun x hx => by
    have := h.pt x hx
    exact List.mem_map.2 ⟨x.toNat, List.mem_range.2 (by omega), by show (x.toNat : Int) = x; omega⟩
  rwa [List.length_map, List.length_range] at this
theorem sub_all {n : Nat} {a : List Int} (hn : n ≤ 4096) (h : subB a (allL n) = true) : okL n a = true := by
  have hs : IsSet a := by
    unfold subB at h
    rw [Bool.and_eq_true, Bool.and_eq_true, mayB_iff] at h
    exact h.1.1
  refine pts_ok hn ⟨hs.1, fun x hx => ?_⟩
  have := (sub_iff hs (all_set _)).1 h x hx
  exact (mem_all (by omega) (by omega) x).1 this
section
variable {adj : List (List Int)} {src : List Int}
theorem mem_from (hd : digB adj = true) (hs : okL adj.length src = true) (x : Int) : x ∈ fromL adj src ↔ x ∈ (finS adj src).1 := by
  obtain ⟨par, h⟩ := fin_done (digB_dig hd).1 (ok_pts hs)
  have hn := (digB_dig hd).2
  unfold fromL
  rw [good_yes hd hs, if_pos rfl, mem_sortL]
  exact ⟨fun h => h.1, fun hx => ⟨hx, by have := h.pt x hx; unfold Fit; omega⟩⟩
theorem from_set : IsSet (fromL adj src) := by
  unfold fromL
  split
  · exact sortL_set _
  · exact isSet_nil
theorem from_has (hd : digB adj = true) (hs : okL adj.length src = true) {x : Int} (hx : x ∈ src) : x ∈ fromL adj src := by
  obtain ⟨par, h⟩ := fin_done (digB_dig hd).1 (ok_pts hs)
  exact (mem_from hd hs x).2 (h.has hx)
theorem from_closed (hd : digB adj = true) (hs : okL adj.length src = true) {x y : Int} (hx : x ∈ fromL adj src) (hy : y ∈ adj.getD x.toNat []) : y ∈ fromL adj src := by
  obtain ⟨par, h⟩ := fin_done (digB_dig hd).1 (ok_pts hs)
  exact (mem_from hd hs y).2 (h.closed ((mem_from hd hs x).1 hx) hy)
theorem from_least (hd : digB adj = true) (hs : okL adj.length src = true) (S : Int → Prop) (h1 : ∀ x ∈ src, S x) (h2 : ∀ x y, S x → y ∈ adj.getD x.toNat [] → S y) : ∀ x ∈ fromL adj src, S x := by
  obtain ⟨par, h⟩ := fin_done (digB_dig hd).1 (ok_pts hs)
  exact fun x hx => h.least S h1 (fun x y _ => h2 x y) x ((mem_from hd hs x).1 hx)
theorem from_pts (hd : digB adj = true) (hs : okL adj.length src = true) : okL adj.length (fromL adj src) = true := by
  obtain ⟨par, h⟩ := fin_done (digB_dig hd).1 (ok_pts hs)
  exact pts_ok (digB_dig hd).2 ⟨from_set.1, fun x hx => h.pt x ((mem_from hd hs x).1 hx)⟩
end

theorem rsub_is (va vb : Value) (a b : List Int) (t : Bool) (h : subB a b = t) (w : World) (ha : Row w w.heap.size va a) (hb : Row w w.heap.size vb b) (hlb : b.length ≤ 1048576) :
    Calls Try.prog 21 #[va, vb] w (Says w t) := by
  subst h
  obtain ⟨_, _, _, ⟨h1, h2, _⟩, _⟩ := id ha
  exact refsub_any va vb a b w ha hb (by unfold maxLen at h2; omega) hlb
theorem all_len (n : Nat) : (allL n).length ≤ 1048576 := by have := (all_length n).1; omega


end Wp
end Go.Proofs.Ytmgfhehnehcmpaa
