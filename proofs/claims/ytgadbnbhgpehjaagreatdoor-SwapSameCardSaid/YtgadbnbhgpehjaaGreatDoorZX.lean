/- The document's Mod, Pow and Inv of layer 4, walked (VMR). Edges, and rows of rows, that the call itself makes, by append (VOwn). -/
import Derived.Test.YtgadbnbhgpehjaaGreatDoorQTA
import Derived.Deep.RegionWith
import Derived.Test.YtgadbnbhgpehjaaGreatDoorIJRef
import Derived.Test.YtgadbnbhgpehjaaGreatDoorZA
import Derived.Laws.AppendOwnNone
import Derived.Maps.AppendAt
set_option maxHeartbeats 2000000
set_option maxRecDepth 100000
open Go.Lib (hid)
namespace Go.Proofs.YtgadbnbhgpehjaaGreatDoor
open Go.RowKit
namespace Wp
theorem Zw0 {a p : Int} (h1 : 1 ≤ p) (h2 : p ≤ 2147483647) : (wrap64 (a.tmod p + p)).tmod p = a % p := by
 have hb := em_lt (a := a) h1
 by_cases h0 : a.tmod p < 0
 ·rw [Xh4 h1 h0, show wrap64 (a % p) = a % p from by unfold wrap64; omega, Yx3 h1 (by rw [Int.tmod_eq_emod, if_pos (.inl hb.1), Int.emod_emod]; omega), Int.emod_emod]
 ·have ht := Yx3 h1 (Int.not_lt.1 h0)
  rw [ht, show wrap64 (a % p + p) = a % p + p from by unfold wrap64; omega, Yx3 h1 (by rw [Int.tmod_eq_emod, if_pos (.inl (by omega))]; have := em_lt (a := a % p + p) h1; omega), Int.add_emod_right, Int.emod_emod]
theorem L7_ (a p : Int) (w : World) : Calls Tryz.prog 128 #[.int .i64 a, .int .i64 p] w fun e w' => e = .returned (.int .i64 (modI a p)) ∧ w' = w := by
 unfold modI
 by_cases h : In31 p
 ·rw [if_pos h]
  obtain ⟨h1, h2⟩ := h
  have hs := Zw0 (a := a) h1 h2
  have hn1 : ¬ p < 1 := by omega
  have hn2 : ¬ (2147483647 : Int) < p := by omega
  have hn0 : ¬ p = 0 := by omega
  go_enter Tryz.func128, Tryz.ntmps128
  go_wp2
  go_ret
  exact ⟨rfl, rfl⟩
 ·rw [if_neg h]
  by_cases h1 : p < 1
  ·clear h
   go_enter Tryz.func128, Tryz.ntmps128
   go_wp2
   go_ret
   exact ⟨rfl, rfl⟩
  ·have h2 : 2147483647 < p := by unfold In31 at h; omega
   clear h
   go_enter Tryz.func128, Tryz.ntmps128
   go_wp2
   go_ret
   exact ⟨rfl, rfl⟩
theorem Yg9 {u s m p : Nat} (h : m % 2 = 1) : (u * s % p) * (s * s % p) ^ (m / 2) % p = u * s ^ m % p := by
 have e : m = 2 * (m / 2) + 1 := by omega
 rw [S9_ (E1_ (u * s) p) (I1_ (E1_ (s * s) p))]
 congr 1
 conv => rhs; rw [e, Nat.pow_succ, Nat.pow_mul, Nat.pow_two]
 rw [Nat.mul_assoc, Nat.mul_comm s]
theorem Zw1 {u s m p : Nat} (h : m % 2 = 0) : u * (s * s % p) ^ (m / 2) % p = u * s ^ m % p := by
 have e : m = 2 * (m / 2) := by omega
 rw [S9_ rfl (I1_ (E1_ (s * s) p))]
 congr 1
 conv => rhs; rw [e, Nat.pow_mul, Nat.pow_two]
theorem Yu8 (a : Int) (n P : Nat) (w : World) (hp1 : 1 ≤ P) (hp2 : P ≤ 2147483647) (hn : n ≤ 9223372036854775807) :
  Calls Tryz.prog 147 #[.int .i64 a, .int .i64 n, .int .i64 P] w (Gets w (.int .i64 ((a % P).toNat ^ n % P : Nat))) := by
 obtain ⟨x, hx⟩ : ∃ x : Nat, a % (P : Int) = x := ⟨(a % P).toNat, by have := em_lt (a := a) (p := P) (by omega); omega⟩
 have hxp : x < P := by have := em_lt (a := a) (p := P) (by omega); omega
 rw [hx, Int.toNat_natCast]
 have Hm := hid (fun w => L7_ a P w)
 have em : modI a (P : Int) = x := by unfold modI; rw [if_pos ⟨by omega, by omega⟩, hx]
 rw [em] at Hm
 clear hx em
 obtain ⟨r, hr⟩ : ∃ r, r = x ^ n % P := ⟨_, rfl⟩
 rw [← hr]
 obtain ⟨u0, hu0⟩ : ∃ u0, u0 = 1 % P := ⟨_, rfl⟩
 have ht0 : (1 : Int).tmod (P : Int) = (u0 : Int) := by rw [hu0]; exact Zi1 1 P
 have hup : u0 < P := by rw [hu0]; exact Nat.mod_lt _ hp1
 have Hr := hid (show r = u0 * x ^ n % P from by
  have e := S9_ (n := P) (E1_ 1 P) (show x ^ n % P = x ^ n % P from rfl)
  rw [Nat.one_mul] at e
  rw [hr, hu0, e])
 clear hr hu0
 have h1 : ¬ (P : Int) < 1 := by omega
 have h2 : ¬ (2147483647 : Int) < (P : Int) := by omega
 have h3 : ¬ (n : Int) < 0 := by omega
 have h4 : ¬ (P : Int) = 0 := by omega
 have h5 : ¬ P = 0 := by omega
 go_enter Tryz.func147, Tryz.ntmps147
 go_wp2_with fail
 go_region_with (go_at_call 128; refine (Hm.out _).mono ?_; rintro e w1 ⟨rfl, rfl⟩)
 all_goals (clear ht0; go_simp)
 all_goals go_wp2
 all_goals
  go_loopw [1, 7, 8] (fun vn vu vs wr => ∃ m u s : Nat, vn = .int .i64 m ∧ vu = .int .i64 u ∧ vs = .int .i64 s ∧ m ≤ n ∧ u < P ∧ s < P ∧ r = u * s ^ m % P ∧ Below w.heap.size w wr) (fun vn _ _ _ => (intOf vn).toNat)
  case atStart => exact ⟨n, u0, x, rfl, rfl, rfl, Nat.le_refl _, hup, hxp, Hr.out, (Below.refl _ _).drew⟩
  case round =>
   obtain ⟨m, u, s, rfl, rfl, rfl, hm, hu, hs, hr, hbr⟩ := hrel
   have Hbr := hid hbr
   clear hbr
   by_cases h0 : m = 0
   ·subst h0
    have hru : u = r := by rw [hr, Nat.pow_zero, Nat.mul_one, Nat.mod_eq_of_lt hu]
    subst hru
    clear hr
    go_wp2
    go_ret
    exact ⟨rfl, Hbr.out⟩
   ·have hm0 : 0 < (m : Int) := by omega
    have hml : m / 2 < m := Nat.div_lt_self (by omega) (by decide)
    have htm : (m : Int).tmod 2 = ((m % 2 : Nat) : Int) := Zi1 m 2
    have hdv : (m : Int).tdiv 2 = ((m / 2 : Nat) : Int) := rfl
    obtain ⟨h, hh⟩ : ∃ h, h = m / 2 := ⟨_, rfl⟩
    obtain ⟨s', hs'⟩ : ∃ s', s' = s * s % P := ⟨_, rfl⟩
    have m2 := Zi2 hs hs hp2 hs'.symm
    have hsl : s' < P := by rw [hs']; exact Nat.mod_lt _ hp1
    rcases Nat.mod_two_eq_zero_or_one m with heven | hodd
    rotate_left
    ·obtain ⟨u', hu'⟩ : ∃ u', u' = u * s % P := ⟨_, rfl⟩
     have m1 := Zi2 hu hs hp2 hu'.symm
     have hul : u' < P := by rw [hu']; exact Nat.mod_lt _ hp1
     have hnext := Yg9 (u := u) (s := s) (p := P) hodd
     rw [← hu', ← hs', ← hh] at hnext
     have Hnext := hid (hr.trans hnext.symm)
     rw [hodd, show ((1 : Nat) : Int) = 1 from rfl] at htm
     rw [← hh] at hdv hml
     clear hnext hr hu' hs' hh hodd
     go_wp2
     go_roundw
     case rel => exact ⟨h, u', s', rfl, rfl, rfl, Nat.le_trans (Nat.le_of_lt hml) hm, hul, hsl, Hnext.out, Hbr.out⟩
     case measure => simpa [intOf] using hml
    ·have hnext := Zw1 (u := u) (s := s) (p := P) heven
     rw [← hs', ← hh] at hnext
     have Hnext := hid (hr.trans hnext.symm)
     rw [heven, show ((0 : Nat) : Int) = 0 from rfl] at htm
     rw [← hh] at hdv hml
     clear hnext hr hs' hh heven
     go_wp2
     go_roundw
     case rel => exact ⟨h, u, s', rfl, rfl, rfl, Nat.le_trans (Nat.le_of_lt hml) hm, hu, hsl, Hnext.out, Hbr.out⟩
     case measure => simpa [intOf] using hml
theorem Yu9 (a n p : Int) (w : World) (h : ¬ (In31 p ∧ 0 ≤ n)) : Calls Tryz.prog 147 #[.int .i64 a, .int .i64 n, .int .i64 p] w (Gets w (.int .i64 0)) := by
 by_cases h1 : p < 1
 ·go_enter Tryz.func147, Tryz.ntmps147
  go_wp2
  go_ret
  exact I6_ _ _
 ·by_cases h2 : 2147483647 < p
  ·go_enter Tryz.func147, Tryz.ntmps147
   go_wp2
   go_ret
   exact I6_ _ _
  ·have hn : n < 0 := by unfold In31 at h; omega
   clear h
   go_enter Tryz.func147, Tryz.ntmps147
   go_wp2
   go_ret
   exact I6_ _ _
theorem Yh0 (a n p : Int) (w : World) (hn : n ≤ 9223372036854775807) : Calls Tryz.prog 147 #[.int .i64 a, .int .i64 n, .int .i64 p] w (Gets w (.int .i64 (powI a n p))) := by
 unfold powI
 by_cases h : In31 p ∧ 0 ≤ n
 ·rw [if_pos h]
  obtain ⟨⟨h1, h2⟩, h0⟩ := h
  obtain ⟨P, rfl⟩ : ∃ P : Nat, p = P := ⟨p.toNat, by omega⟩
  obtain ⟨N, rfl⟩ : ∃ N : Nat, n = N := ⟨n.toNat, by omega⟩
  exact Yu8 a N P w (by omega) (by omega) (by omega)
 ·rw [if_neg h]
  exact Yu9 a n p w h
open Go.RowKit
theorem Yh1 (a p : Int) (w : World) : Calls Tryz.prog 127 #[.int .i64 a, .int .i64 p] w (Gets w (.tuple #[.int .i64 (invI a p), .bool (invB a p)])) := by
 rcases hp : prB p with _ | _
 ·have hB := Yl6 (a := a) hp
  rw [Ze1 hB, hB]
  have Hp := hid (fun w => K6_ p w)
  rw [hp] at Hp
  clear hB hp
  go_enter Tryz.func127, Tryz.ntmps127
  go_wp2_with fail
  refine (Hp.out _).mono ?_
  rintro e w1 ⟨rfl, hb1⟩
  go_wp2
  go_ret2
  exact ⟨rfl, hb1⟩
 ·have Hp := hid (fun w => K6_ p w)
  rw [hp] at Hp
  have hpi := prB_iff.1 hp
  have hpl : p ≤ 2147483647 := hpi.2.1
  by_cases h0 : modI a p = 0
  ·have hB := Zi3 hp h0
   rw [Ze1 hB, hB]
   have Hm := hid (fun w => L7_ a p w)
   rw [h0] at Hm
   clear hB hp h0 hpi
   go_enter Tryz.func127, Tryz.ntmps127
   go_wp2_with fail
   refine (Hp.out _).mono ?_
   rintro e w1 ⟨rfl, hb1⟩
   go_wp2_with fail
   refine (Hm.out _).mono ?_
   rintro e w2 ⟨rfl, rfl⟩
   go_wp2
   go_ret2
   exact ⟨rfl, hb1⟩
  ·have hB := Ze0 hp h0
   rw [Ze2 hB, hB]
   have Hm := hid (fun w => L7_ a p w)
   have Hw := hid (fun w => Yh0 a (p - 2) p w (by omega))
   have h2 := hpi.1
   have hw : wrap64 (p - 2) = p - 2 := by unfold wrap64; omega
   generalize modI a p = m at *
   generalize powI a (p - 2) p = y at *
   clear hB hp hpi
   go_enter Tryz.func127, Tryz.ntmps127
   go_wp2_with fail
   refine (Hp.out _).mono ?_
   rintro e w1 ⟨rfl, hb1⟩
   go_wp2_with fail
   refine (Hm.out _).mono ?_
   rintro e w2 ⟨rfl, rfl⟩
   go_wp2_with fail
   refine (Hw.out _).mono ?_
   rintro e w3 ⟨rfl, hb3⟩
   have hB3 := Z0_ hb1 (Nat.le_refl _) hb3
   go_wp2
   go_ret2
   exact ⟨rfl, hB3⟩
open Go.RowKit
def flatE : List (Nat × Nat) → List Value
 | [] => []
 | e :: r => .int .i64 (e.1 : Int) :: .int .i64 (e.2 : Int) :: flatE r
theorem U4_ : ∀ (a b : List (Nat × Nat)), flatE (a ++ b) = flatE a ++ flatE b
 | [], b => rfl
 | e :: a, b => by simp [flatE, U4_ a b]
theorem S3_ : ∀ (ns : List (Nat × Nat)) (k : Nat), k < ns.length → (flatE ns)[k * 2]? = some (.int .i64 ((ns.getD k (0, 0)).1 : Int)) ∧ (flatE ns)[k * 2 + 1]? = some (.int .i64 ((ns.getD k (0, 0)).2 : Int))
 | [], k, h => absurd h (by simp)
 | e :: r, 0, _ => by simp [flatE, List.getD]
 | e :: r, k + 1, h => by
  have ih := S3_ r k (by simp at h; omega)
  have e1 : (k + 1) * 2 = k * 2 + 1 + 1 := by omega
  rw [e1]
  simp only [flatE, List.getElem?_cons_succ, List.getD_cons_succ]
  exact ih
theorem Xf4 (a : Addr) (j : Nat) : (⟨(a.add j).block, (a.add j).off + 1, none⟩ : Addr) = a.add (j + 1) := by
 unfold Addr.add
 by_cases hj : j = 0
 ·subst hj; simp
 ·simp [hj, Nat.add_assoc]
theorem Vq0 : (Tryz.prog.info? 73).map (fun i => (i.zero, i.size, i.bytes)) = some (some (.agg #[.int .i64 0, .int .i64 0]), 2, 16) := by kernel_rfl
def OwnE (w : World) (base : Nat) (v : Value) (ns : List (Nat × Nat)) : Prop := w.ownsRow base 73 2 v ns.length (flatE ns)
theorem OwnE.edges {w : World} {base : Nat} {v : Value} {ns : List (Nat × Nat)} (h : OwnE w base v ns) : Edges w w.heap.size v (castE ns) := by
 rcases h.2 with ⟨rfl, h0⟩ | ⟨g, cap, cur, rfl, hb, hg, hcl, hcm, _⟩
 ·have : ns = [] := List.eq_nil_of_length_eq_zero h0
  subst this
  exact ⟨none, 0, rfl, ⟨Nat.le_refl _, by decide, fun _ => rfl⟩, fun k hk => absurd hk (by simp [castE])⟩
 ·refine ⟨_, cap, by rw [X1_], ⟨by rw [X1_]; exact hcl, hcm, fun e => by cases e⟩, fun k hk => ⟨⟨g, 0, none⟩, rfl, (World.ownsRow.lt h g rfl).2, ?_, ?_⟩⟩
  ·rw [X1_] at hk
   rw [G2_]
   exact World.ownsRow.cells h (g := g) rfl _ _ (S3_ ns k hk).1
  ·rw [X1_] at hk
   rw [G2_, Xf4]
   exact World.ownsRow.cells h (g := g) rfl _ _ (S3_ ns k hk).2
theorem OwnE.slice {w : World} {base : Nat} {v : Value} {ns : List (Nat × Nat)} (h : OwnE w base v ns) : ∃ A cap, v = .slice A ns.length cap := by
 rcases h.2 with ⟨rfl, h0⟩ | ⟨g, cap, _, hv, _⟩
 ·exact ⟨none, 0, by rw [h0]⟩
 ·exact ⟨_, cap, hv⟩
theorem P6_ {w w' : World} {base : Nat} {e : TypeId} {size : Nat} {v : Value} {n : Nat} {xs : List Value} (h : w.ownsRow base e size v n xs) (hb : Below w.heap.size w w') : w'.ownsRow base e size v n xs :=
 h.kept (Z9_ hb none) (by
  rcases v.ownBlock with _ | q
  ·exact .inl rfl
  ·exact .inr (by simp))
end Wp
end Go.Proofs.YtgadbnbhgpehjaaGreatDoor
