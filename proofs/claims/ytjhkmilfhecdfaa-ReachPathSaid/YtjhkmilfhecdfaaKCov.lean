/- Whether that is a cover: the document's Covers, walked where it is one. -/
import Derived.Test.YtjhkmilfhecdfaaK6May
namespace Go.Proofs.Ytjhkmilfhecdfaa
open Go.RowKit
namespace Wp

theorem kcov_has (v : Value) (l : List Int) (x : Int) (b : Bool) (h : hasB l x = b) (w : World) (hr : Row w w.heap.size v l) (hl : l.length ≤ 64) :
    Calls Try.prog 32 #[v, .int .i64 x] w (Says w b) := by
  subst h
  exact refhas_any v l x w hr (by omega)
theorem refsub_is (va vb : Value) (a b : List Int) (t : Bool) (h : subB a b = t) (w : World) (ha : Row w w.heap.size va a) (hb : Row w w.heap.size vb b) (hla : a.length ≤ 1048576) (hlb : b.length ≤ 1048576) :
    Calls Try.prog 29 #[va, vb] w (Says w t) := by
  subst h
  exact refsub_any va vb a b w ha hb (by omega) hlb

set_option maxHeartbeats 4000000 in
set_option maxRecDepth 100000 in
theorem covers_true (R : Nat) (va vl vr : Value) (adj : List (List Int)) (l r : List Int) (w : World) (hr : Rows2 w w.heap.size va adj) (hl : Row w w.heap.size vl l) (hrr : Row w w.heap.size vr r) (hn : adj.length ≤ 64) (hll : l.length ≤ 64) (hrl : r.length ≤ 64) (hlen : ∀ i, (adj.getD i []).length ≤ 64)
    (hc : ∀ i : Nat, i < adj.length → hasB l i = true ∨ subB (adj.getD i []) r = true) (h1 : subB l (allL adj.length) = true) (h2 : subB r (allL R) = true) :
    Calls Try.prog 20 #[.int .i64 R, va, vl, vr] w (Says w true) := by
  obtain ⟨A, c, rfl, hcap, hcell⟩ := hr
  have Hcell := Lib.hid hcell
  have Hl := Lib.hid hl
  have Hr := Lib.hid hrr
  have Hlen := Lib.hid hlen
  have Hc := Lib.hid hc
  have H1 := Lib.hid h1
  have H2 := Lib.hid h2
  have hA1 : Hid ((allL adj.length).length ≤ 1048576) := Lib.hid (by have := (all_length adj.length).1; omega)
  have hA2 : Hid ((allL R).length ≤ 1048576) := Lib.hid (by have := (all_length R).1; omega)
  obtain ⟨Al, cl, rfl, _⟩ := id hl
  obtain ⟨Ar, cr, rfl, _⟩ := id hrr
  clear hcell hl hrr hlen hc h1 h2
  go_enter Try.func20, Try.ntmps20
  go_wp2
  go_loopw [9] (fun vi wr => ∃ k : Nat, vi = .int .i64 k ∧ k ≤ adj.length ∧ Below w.heap.size w wr) (fun vi _ => adj.length - (intOf vi).toNat)
  case atStart => exact ⟨0, rfl, Nat.zero_le _, Below.refl _ _⟩
  case round =>
    obtain ⟨k, rfl, hk, hbr⟩ := hrel
    have Hbr := Lib.hid hbr
    have Hl1 := Lib.hid (Hl.out.up hbr)
    have Hr1 := Lib.hid (Hr.out.up hbr)
    clear hbr
    by_cases hlt : k < adj.length
    · have hkI : (k : Int) < (adj.length : Int) := by omega
      have Hck := Lib.hid (Hc.out k hlt)
      rcases hh : hasB l k with _ | _
      · have Hh := Lib.hid hh
        obtain ⟨ad, u, hA, hab, hcu, hru⟩ := Hcell.out k hlt
        subst hA
        have Hcu := Lib.hid hcu
        have Hru := Lib.hid hru
        clear hcu hru hh
        go_wp2_with fail
        refine (kcov_has _ l k false Hh.out wr Hl1.out hll).mono ?_
        rintro e w1 ⟨rfl, hb1⟩
        have Hb1 := Lib.hid (Hbr.out.trans (hb1.mono Hbr.out.size))
        have Hr2 := Lib.hid (Hr1.out.up hb1)
        clear hb1
        have g1 := (Hb1.out.cell (p := ad.add k) (by rw [add_block]; exact hab)).trans Hcu.out
        go_wp2_with fail
        refine (refsub_is _ _ (adj.getD k []) r true (Hck.out.resolve_left (by rw [Hh.out]; decide)) w1 ((Hru.out.below Hb1.out).mono Hb1.out.size) Hr2.out (by have := Hlen.out k; omega) (by omega)).mono ?_
        rintro e w2 ⟨rfl, hb2⟩
        have Hb2 := Lib.hid (Hb1.out.trans (hb2.mono Hb1.out.size))
        clear hb2 g1
        go_wp2
        go_roundw
        case rel => exact ⟨k + 1, by go_num, by omega, Hb2.out⟩
        case measure => simp [intOf]; omega
      · have Hh := Lib.hid hh
        clear hh
        go_wp2_with fail
        refine (kcov_has _ l k true Hh.out wr Hl1.out hll).mono ?_
        rintro e w1 ⟨rfl, hb1⟩
        have Hb1 := Lib.hid (Hbr.out.trans (hb1.mono Hbr.out.size))
        clear hb1
        go_wp2
        go_roundw
        case rel => exact ⟨k + 1, by go_num, by omega, Hb1.out⟩
        case measure => simp [intOf]; omega
    · have hkn : k = adj.length := by omega
      subst hkn
      go_wp2_with fail
      refine (refall_any adj.length wr).mono ?_
      rintro e w1 ⟨v1, rfl, hr1, hb1⟩
      have Ha := Lib.hid hr1
      have Hl2 := Lib.hid (Hl1.out.up hb1)
      have Hr2 := Lib.hid (Hr1.out.up hb1)
      have Hb1 := Lib.hid (Hbr.out.trans (hb1.mono Hbr.out.size))
      clear hr1 hb1
      go_wp2_with fail
      refine (refsub_is _ _ l (allL adj.length) true H1.out w1 Hl2.out Ha.out (by omega) hA1.out).mono ?_
      rintro e w2 ⟨rfl, hb2⟩
      have Hr3 := Lib.hid (Hr2.out.up hb2)
      have Hb2 := Lib.hid (Hb1.out.trans (hb2.mono Hb1.out.size))
      clear hb2
      go_wp2_with fail
      refine (refall_any R w2).mono ?_
      rintro e w3 ⟨v3, rfl, hr3, hb3⟩
      have Ha3 := Lib.hid hr3
      have Hr4 := Lib.hid (Hr3.out.up hb3)
      have Hb3 := Lib.hid (Hb2.out.trans (hb3.mono Hb2.out.size))
      clear hr3 hb3
      go_wp2_with fail
      refine (refsub_is _ _ r (allL R) true H2.out w3 Hr4.out Ha3.out (by omega) hA2.out).mono ?_
      rintro e w4 ⟨rfl, hb4⟩
      have Hb4 := Lib.hid (Hb3.out.trans (hb4.mono Hb3.out.size))
      clear hb4
      go_wp2
      go_ret
      exact ⟨rfl, Hb4.out⟩

end Wp
end Go.Proofs.Ytjhkmilfhecdfaa
