/- Plain facts: what is written, one behind the other, is taken, one by one. -/
import Derived.Test.YtcabbhiabhblfaaDoorWStr
namespace Go.Proofs.YtcabbhiabhblfaaDoor
open Go.RowKit
namespace Wp

/-- The bytes of numbers, one behind the other. -/
def encs : List Nat → List UInt8
  | [] => []
  | n :: r => Lib.uvarint n ++ encs r

theorem step_at (A R : List UInt8) (n : Nat) (hn : n ≤ 1125899906842624) (p : Nat) (hp : p = A.length) :
    stepN (A ++ (Lib.uvarint n ++ R)) (p, none) = (n, (p + (Lib.uvarint n).length, none)) := by
  subst hp
  apply stepN_ok
  rw [List.drop_left]
  have h := dec_enc 7 0 0 n R (by omega) (by omega) (fun _ => rfl)
  rw [h]
  simp

theorem take_enc (f : List UInt8 → St → Int × St) (g : Nat → Int) (hf : ∀ T st, f T st = (g (stepN T st).1, (stepN T st).2)) :
    ∀ (ns : List Nat) (A R : List UInt8) (acc : List Int) (p : Nat), p = A.length → (∀ n ∈ ns, n ≤ 1125899906842624) →
      takeL f (A ++ (encs ns ++ R)) ns.length (p, none) acc = (some (acc ++ ns.map g), (p + (encs ns).length, none)) := by
  intro ns
  induction ns with
  | nil =>
    intro A R acc p _ _
    simp [takeL, encs]
  | cons n r ih =>
    intro A R acc p hp hn
    have hs := step_at A (encs r ++ R) n (hn n (by simp)) p hp
    have e : A ++ (encs (n :: r) ++ R) = A ++ (Lib.uvarint n ++ (encs r ++ R)) := by simp [encs, List.append_assoc]
    rw [e]
    have hf1 := hf (A ++ (Lib.uvarint n ++ (encs r ++ R))) (p, none)
    rw [hs] at hf1
    simp only [List.length_cons, takeL, hf1]
    have h2 := ih (A ++ Lib.uvarint n) R (acc ++ [g n]) (p + (Lib.uvarint n).length) (by rw [List.length_append, hp]) (fun m hm => hn m (List.mem_cons_of_mem _ hm))
    rw [List.append_assoc] at h2
    rw [h2]
    simp [encs, List.append_assoc, Nat.add_assoc]

theorem list_enc (f : List UInt8 → St → Int × St) (g : Nat → Int) (hf : ∀ T st, f T st = (g (stepN T st).1, (stepN T st).2)) (ns : List Nat) (A R : List UInt8) (p : Nat) (hp : p = A.length) (hn : ∀ n ∈ ns, n ≤ 1125899906842624) (hl : ns.length ≤ 1125899906842624)
    (most : Int) (hm : ¬ most < (ns.length : Int)) :
    listS f (A ++ (Lib.uvarint ns.length ++ (encs ns ++ R))) most (p, none) = (some (ns.map g), (p + (Lib.uvarint ns.length).length + (encs ns).length, none)) := by
  have hs := step_at A (encs ns ++ R) ns.length hl p hp
  simp only [listS, hs]
  rw [if_neg hm]
  have h2 := take_enc f g hf ns (A ++ Lib.uvarint ns.length) R [] (p + (Lib.uvarint ns.length).length) (by rw [List.length_append, hp]) hn
  rw [List.append_assoc] at h2
  rw [h2]
  simp

theorem list_over (f : List UInt8 → St → Int × St) (ns : List Nat) (A R : List UInt8) (p : Nat) (hp : p = A.length) (hl : ns.length ≤ 1125899906842624) (most : Int) (hm : most < (ns.length : Int)) :
    listS f (A ++ (Lib.uvarint ns.length ++ R)) most (p, none) = (none, (p + (Lib.uvarint ns.length).length, some (p, 3))) := by
  have hs := step_at A R ns.length hl p hp
  simp only [listS, hs]
  rw [if_pos hm]

/-- Zig-zag. -/
def zz (x : Int) : Nat := if x < 0 then (-2 * x - 1).toNat else (2 * x).toNat
theorem unz_zz (x : Int) : unz (zz x) = x := by
  unfold unz zz
  split <;> split <;> omega
theorem zz_le {x : Int} (h1 : -562949953421312 ≤ x) (h2 : x ≤ 562949953421312) : zz x ≤ 1125899906842624 := by
  unfold zz
  split <;> omega
theorem numB_list {x : Int} (h0 : 0 ≤ x) (h1 : x ≤ 1125899906842624) : (numB x).data.toList = Lib.uvarint x.toNat := by
  unfold numB
  rw [if_neg (by omega)]
theorem intB_list {x : Int} (h1 : -562949953421312 ≤ x) (h2 : x ≤ 562949953421312) : (intB x).data.toList = Lib.uvarint (zz x) := by
  unfold intB zz
  rw [if_neg (by omega)]
  split
  · exact numB_list (by omega) (by omega)
  · exact numB_list (by omega) (by omega)

/-- The bytes of a list, told by the bytes of its numbers. -/
theorem row_enc (one : Int → ByteArray) (h : Int → Nat) (zs : List Int) (hz : ∀ z ∈ zs, (one z).data.toList = Lib.uvarint (h z)) : ∀ acc, rowL one zs acc = acc ++ encs (zs.map h) := by
  induction zs with
  | nil => intro acc; simp [rowL, encs]
  | cons z r ih =>
    intro acc
    have h1 := hz z (by simp)
    have hne : ¬ (one z).data.toList = [] := by
      rw [h1]
      intro h0
      have h2 := Lib.uvarint_pos (h z)
      rw [h0] at h2
      simp at h2
    rw [rowL, if_neg hne, h1, ih (fun y hy => hz y (List.mem_cons_of_mem _ hy))]
    simp [encs, List.append_assoc]

theorem rowB_enc (one : Int → ByteArray) (h : Int → Nat) (zs : List Int) (hl : zs.length ≤ 1048576) (hz : ∀ z ∈ zs, (one z).data.toList = Lib.uvarint (h z)) :
    (rowB one zs).data.toList = Lib.uvarint (zs.map h).length ++ encs (zs.map h) := by
  show rowL one zs (numB zs.length).data.toList = _
  rw [row_enc one h zs hz, numB_list (by omega) (by omega)]
  simp

theorem encs_len : ∀ (ns : List Nat), (∀ n ∈ ns, n ≤ 1125899906842624) → (encs ns).length ≤ 8 * ns.length := by
  intro ns
  induction ns with
  | nil => intro _; simp [encs]
  | cons n r ih =>
    intro h
    have h1 := enc_len (h n (by simp))
    have h2 := ih (fun m hm => h m (List.mem_cons_of_mem _ hm))
    simp only [encs, List.length_append, List.length_cons]
    omega

end Wp
end Go.Proofs.YtcabbhiabhblfaaDoor
