/- Plain facts on strings that are put together. -/
import Derived.Test.YtcabbhiabhblfaaDoorWLaw
import Derived.IntWalk
namespace Go.Proofs.YtcabbhiabhblfaaDoor
open Go.RowKit
namespace Wp

theorem cat_list (a b : ByteArray) : (a ++ b).data.toList = a.data.toList ++ b.data.toList := rfl
theorem size_of (L : ByteArray) (l : List UInt8) (h : L.data.toList = l) : L.size = l.length := by
  rw [← h]; exact Array.length_toList.symm
theorem head_list (S : ByteArray) (k : Nat) : (S.extract 0 k).data.toList = S.data.toList.take k := by
  rw [Lib.extract_data]
  simp
/-- A number is taken, told by what it comes to. -/
theorem take_as (E : Nat → Addr) (B : Nat) (T : ByteArray) (b : Nat) (st st' : St) (n : Nat) (m : Int) (w : World) (hM : Met E B w) (hr : Rd E T b st w) (hp : st.1 ≤ T.size) (hT : T.size ≤ 1099511627776)
    (h : stepN T.data.toList st = (n, st')) (hm : (n : Int) = m) : Calls Tryd.prog 23 #[.pointer (some ⟨b, 0, none⟩)] w (Took E B T b m st' w) := by
  have hc := rnum_any E B T b st w hM hr hp hT
  rw [h] at hc
  subst hm
  exact hc
theorem end_as (E : Nat → Addr) (B : Nat) (T : ByteArray) (b : Nat) (st : St) (x y : Int) (hk : ∀ x, st.2 = some x → 1 ≤ x.2 ∧ x.2 ≤ 4) (w : World) (hM : Met E B w) (hB : B ≤ b) (hr : Rd E T b st w) (hp : st.1 ≤ T.size) (hT : T.size ≤ 1099511627776)
    (hx : ((endS T.data.toList st).1 : Int) = x) (hy : ((endS T.data.toList st).2 : Int) = y) :
    Calls Tryd.prog 27 #[.pointer (some ⟨b, 0, none⟩)] w fun e w' => e = .returned (.tuple #[.int .i64 x, .int .i64 y]) ∧ Below w.heap.size w w' := by
  subst hx hy
  exact end_any E B T b st hk hp hT w hM hB hr

end Wp
end Go.Proofs.YtcabbhiabhblfaaDoor
