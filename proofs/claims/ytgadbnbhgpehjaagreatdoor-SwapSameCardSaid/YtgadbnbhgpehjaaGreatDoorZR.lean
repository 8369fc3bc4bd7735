/- The document's R7 over digraphs that may be: May, points, near and steps, walked (without the program's search; gen_vr7.py). The document's R7 over digraphs that may be: least, From and Path, walked (without the program's search; gen_vr7.py). -/
import Derived.Test.YtgadbnbhgpehjaaGreatDoorVReach
import Derived.Test.YtgadbnbhgpehjaaGreatDoorZA
namespace Go.Proofs.YtgadbnbhgpehjaaGreatDoor
open Go Go.RowKit
namespace Wp
theorem Rows2.read {w : World} {B : Nat} {A : Option Addr} {n c : Nat} {adj : List (List Int)} (h : Rows2 w B (.slice A n c) adj) (x : Nat) (hx : x < adj.length) : ∃ (ada : Addr) (ua : Value), A = some ada ∧ w.cell? (ada.add x) = some ua ∧ Row w B ua (adj.getD x []) := by
 obtain ⟨A3, c3, e6, _, hka⟩ := h
 injection e6 with e7 e8 e9
 subst e7
 obtain ⟨ada, ua, hAa, _, hca, hru⟩ := hka x hx
 exact ⟨ada, ua, hAa, hca, hru⟩
section
variable {adj : List (List Int)} (hd : DigP adj)
include hd
end
open Go Go.RowKit
section
variable {adj : List (List Int)} (hd : DigP adj)
include hd
end
structure Rest (adj : List (List Int)) (dst l out : List Int) (x : Int) : Prop where
 ex : ∃ S m rest, Greedy adj dst S m (x :: rest) ∧ l = out ++ rest
end Wp
end Go.Proofs.YtgadbnbhgpehjaaGreatDoor
