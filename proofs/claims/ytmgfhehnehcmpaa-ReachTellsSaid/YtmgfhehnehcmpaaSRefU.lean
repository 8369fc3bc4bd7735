/- The document's Sort and Union: each number laid into its place: walked. -/
import Derived.Test.YtmgfhehnehcmpaaSRefMeet
namespace Go.Proofs.Ytmgfhehnehcmpaa
open Go.RowKit
namespace Wp

def sortOf (l : List Int) (k : Nat) : List Int := sortL (l.take k)
theorem sortOf_mem (l : List Int) (k : Nat) (h : k < l.length) (z : Int) : z ∈ sortOf l (k + 1) ↔ (z ∈ sortOf l k ∨ (z = l.getD k 0 ∧ Fit z)) := by
  unfold sortOf
  have e : l[k] = l.getD k 0 := by simp [List.getD, h]
  rw [mem_sortL, mem_sortL, List.take_succ_eq_append_getElem h, e, List.mem_append, List.mem_singleton]
  constructor
  · rintro ⟨h1 | h1, h2⟩
    · exact .inl ⟨h1, h2⟩
    · exact .inr ⟨h1, h2⟩
  · rintro (⟨h1, h2⟩ | ⟨h1, h2⟩)
    · exact ⟨.inl h1, h2⟩
    · exact ⟨.inr h1, h2⟩
theorem sortOf_no (l : List Int) (k : Nat) (h : k < l.length) (hf : ¬ Fit (l.getD k 0)) : sortOf l (k + 1) = sortOf l k :=
  (sortL_set _).ext (sortL_set _) fun z => by
    change z ∈ sortOf l (k + 1) ↔ z ∈ sortOf l k
    rw [sortOf_mem l k h]
    constructor
    · rintro (h1 | ⟨h1, h2⟩)
      · exact h1
      · rw [h1] at h2; exact absurd h2 hf
    · exact .inl
theorem sortOf_in (l : List Int) (k : Nat) (h : k < l.length) (hf : l.getD k 0 ∈ sortOf l k) : sortOf l (k + 1) = sortOf l k :=
  (sortL_set _).ext (sortL_set _) fun z => by
    change z ∈ sortOf l (k + 1) ↔ z ∈ sortOf l k
    rw [sortOf_mem l k h]
    constructor
    · rintro (h1 | ⟨h1, h2⟩)
      · exact h1
      · rw [h1]; exact hf
    · exact .inl
theorem sortOf_ins (l : List Int) (k : Nat) (h : k < l.length) (hf : Fit (l.getD k 0)) : sortOf l (k + 1) = ins (l.getD k 0) (sortOf l k) :=
  (sortL_set _).ext (ins_set _ hf _ (sortL_set _)) fun z => by
    change z ∈ sortOf l (k + 1) ↔ _
    rw [sortOf_mem l k h, mem_ins]
    constructor
    · rintro (h1 | ⟨h1, h2⟩)
      · exact .inr h1
      · exact .inl h1
    · rintro (h1 | h1)
      · exact .inr ⟨h1, by rw [h1]; exact hf⟩
      · exact .inl h1
theorem sortOf_length (l : List Int) (k : Nat) : (sortOf l k).length ≤ l.length := by
  unfold sortOf
  refine Nat.le_trans (sortL_length _) ?_
  simp
  omega
theorem sortOf_all (l : List Int) : sortOf l l.length = sortL l := by unfold sortOf; rw [List.take_length]

theorem ins_past (x y : Int) : ∀ a : List Int, a.Pairwise (· < ·) → (∃ z ∈ a, x < z) → ins x (a ++ [y]) = ins x a ++ [y]
  | [], _, h => by obtain ⟨z, hz, _⟩ := h; cases hz
  | b :: a, hp, h => by
    rw [List.cons_append]
    unfold ins
    split
    · rfl
    · split
      · rfl
      · rw [List.pairwise_cons] at hp
        rw [ins_past x y a hp.2 ?_]
        · rfl
        · obtain ⟨z, hz, hx⟩ := h
          rcases List.mem_cons.1 hz with e | hz
          · omega
          · exact ⟨z, hz, hx⟩
theorem ins_here (x y : Int) : ∀ a : List Int, (∀ z ∈ a, z < x) → x < y → ins x (a ++ [y]) = a ++ [x, y]
  | [], _, h => by simp [ins, h]
  | b :: a, hb, h => by
    have h1 := hb b (by simp)
    rw [List.cons_append]
    unfold ins
    rw [if_neg (by omega), if_neg (by omega), ins_here x y a (fun z hz => hb z (by simp [hz])) h]
    rfl
theorem ins_end (x : Int) : ∀ a : List Int, (∀ z ∈ a, z < x) → ins x a = a ++ [x]
  | [], _ => rfl
  | b :: a, hb => by
    have h1 := hb b (by simp)
    unfold ins
    rw [if_neg (by omega), if_neg (by omega), ins_end x a (fun z hz => hb z (by simp [hz]))]
    rfl

/-- What stands in next behind m of out's numbers. -/
def Ins (x : Int) (out : List Int) (m : Nat) (laid : Bool) (next : List Int) : Prop :=
  (laid = false ∧ (∀ z ∈ out.take m, z < x) ∧ next = out.take m) ∨ (laid = true ∧ (∃ z ∈ out.take m, x < z) ∧ next = ins x (out.take m))
theorem ins_start (x : Int) (out : List Int) : Ins x out 0 false [] := .inl ⟨rfl, by simp, rfl⟩
theorem ins_take {out : List Int} {m : Nat} (hm : m < out.length) : out.take (m + 1) = out.take m ++ [out.getD m 0] := by
  rw [List.take_succ_eq_append_getElem hm]; simp [List.getD, hm]
theorem ins_lay {x : Int} {out next : List Int} {m : Nat} (hm : m < out.length) (h : Ins x out m false next) (hx : x < out.getD m 0) : Ins x out (m + 1) true (next ++ [x] ++ [out.getD m 0]) := by
  rcases h with ⟨_, h1, h2⟩ | ⟨h, _⟩
  · refine .inr ⟨rfl, ⟨_, by rw [ins_take hm]; simp, hx⟩, ?_⟩
    rw [ins_take hm, ins_here x _ _ h1 hx, h2, List.append_assoc]
    rfl
  · cases h
theorem ins_less {x : Int} {out next : List Int} {m : Nat} (hm : m < out.length) (h : Ins x out m false next) (hn : x ∉ out) (hx : ¬ x < out.getD m 0) : Ins x out (m + 1) false (next ++ [out.getD m 0]) := by
  rcases h with ⟨_, h1, h2⟩ | ⟨h, _⟩
  · refine .inl ⟨rfl, fun z hz => ?_, by rw [ins_take hm, h2]⟩
    rw [ins_take hm, List.mem_append, List.mem_singleton] at hz
    rcases hz with hz | hz
    · exact h1 z hz
    · have : z ≠ x := fun e => hn (by rw [← e, hz]; simp [List.getD, hm])
      omega
  · cases h
theorem ins_laid {x : Int} {out next : List Int} {m : Nat} (hm : m < out.length) (hs : out.Pairwise (· < ·)) (h : Ins x out m true next) : Ins x out (m + 1) true (next ++ [out.getD m 0]) := by
  rcases h with ⟨h, _⟩ | ⟨_, ⟨z, hz, hx⟩, h2⟩
  · cases h
  · refine .inr ⟨rfl, ⟨z, by rw [ins_take hm]; simp [hz], hx⟩, ?_⟩
    rw [ins_take hm, ins_past x _ _ (hs.sublist (List.take_sublist _ _)) ⟨z, hz, hx⟩, h2]
theorem ins_done {x : Int} {out next : List Int} (h : Ins x out out.length true next) : next = ins x out := by
  rcases h with ⟨h, _⟩ | ⟨_, _, h2⟩
  · cases h
  · rw [h2, List.take_length]
theorem ins_last {x : Int} {out next : List Int} (h : Ins x out out.length false next) : next ++ [x] = ins x out := by
  rcases h with ⟨_, h1, h2⟩ | ⟨h, _⟩
  · rw [List.take_length] at h1 h2
    rw [h2, ins_end x out h1]
  · cases h
theorem ins_len {x : Int} {out next : List Int} {m : Nat} {laid : Bool} (h : Ins x out m laid next) : next.length ≤ out.length + 1 := by
  have h1 : ∀ (t : List Int), (ins x t).length ≤ t.length + 1 := by
    intro t
    induction t with
    | nil => simp [ins]
    | cons a t ih =>
      unfold ins
      split
      · simp
      · split
        · simp
        · simp; omega
  rcases h with ⟨_, _, h2⟩ | ⟨_, _, h2⟩
  · rw [h2, List.length_take]; omega
  · rw [h2]
    have := h1 (out.take m)
    rw [List.length_take] at this
    omega

set_option maxHeartbeats 8000000 in
set_option maxRecDepth 100000 in
theorem refsort_any (v : Value) (l : List Int) (w : World) (hr : Row w w.heap.size v l) (hl : l.length ≤ 2097152) : Calls Try.prog 47 #[v] w (Gives w (sortL l)) := by
  obtain ⟨A, c, rfl, _, hcell⟩ := hr
  have Hcell := Lib.hid hcell
  clear hcell
  have hl' : (l.length : Int) ≤ 2097152 := by omega
  have hB0 : Below w.heap.size w (w.alloc (.cells #[] 3)) := (Below.refl _ w).alloc (Nat.le_refl _) _
  have hr0 : Row (w.alloc (.cells #[] 3)) (w.alloc (.cells #[] 3)).heap.size (.slice (some ⟨w.heap.size, 0, none⟩) 0 0) (sortOf l 0) := (Row.lit0 w).here
  have Hall := Lib.hid (sortOf_all l)
  go_enter Try.func47, Try.ntmps47
  go_wp2
  go_loopw [3, 4] (fun vo vi wr => ∃ k : Nat, vi = .int .i64 k ∧ k ≤ l.length ∧ Row wr wr.heap.size vo (sortOf l k) ∧ Below w.heap.size w wr) (fun _ vi _ => l.length - (intOf vi).toNat)
  case atStart => exact ⟨0, rfl, Nat.zero_le _, hr0, hB0⟩
  case round =>
    obtain ⟨k, rfl, hk, hro, hbr⟩ := hrel
    clear hr0 hB0
    by_cases hlt : k < l.length
    · obtain ⟨ad, hA, hab, hg⟩ := Hcell.out k hlt
      subst hA
      have hkl : (k : Int) < (l.length : Int) := by omega
      have hol := sortOf_length l k
      have Hno := Lib.hid (sortOf_no l k hlt)
      have Hin := Lib.hid (sortOf_in l k hlt)
      have Hins := Lib.hid (sortOf_ins l k hlt)
      have Hos := Lib.hid (sortL_set (l.take k))
      change Hid (IsSet (sortOf l k)) at Hos
      generalize sortOf l k = out at hro hol Hno Hin Hins Hos
      generalize l.getD k 0 = x at hg Hno Hin Hins
      have g1 : wr.cell? (ad.add k) = some (.int .i64 x) := (hbr.cell (by rw [add_block]; exact hab)).trans hg
      have Hg := Lib.hid hg
      clear hg
      by_cases h0 : x < 0
      · have Hx := Lib.hid (Hno.out fun h => by unfold Fit at h; omega)
        clear Hno Hin Hins
        go_wp2
        go_roundw
        case rel => exact ⟨k + 1, by go_num, by omega, by rw [Hx.out]; exact hro, hbr⟩
        case measure => simp [intOf]; omega
      · have h0' : decide (x < 0) = false := by simp; omega
        by_cases h1 : 1099511627776 < x
        · have Hx := Lib.hid (Hno.out fun h => by unfold Fit at h; omega)
          clear Hno Hin Hins h0
          go_wp2
          go_roundw
          case rel => exact ⟨k + 1, by go_num, by omega, by rw [Hx.out]; exact hro, hbr⟩
          case measure => simp [intOf]; omega
        · have h1' : decide (1099511627776 < x) = false := by simp; omega
          rcases hc : out.contains x with _ | _
          · have hni : x ∉ out := by rw [← List.contains_iff_mem, hc]; simp
            have Hni := Lib.hid hni
            have Hx := Lib.hid (Hins.out ⟨by omega, by omega⟩)
            have Hc := Lib.hid hc
            clear Hno Hin Hins h0 h1 hni hc
            go_wp2_with fail
            refine (refin_is _ out x _ wr hro (by omega) Hc.out).mono ?_
            rintro e w5 ⟨rfl, rfl⟩
            have Hro := Lib.hid hro
            obtain ⟨Ao, co, rfl, _, hocell⟩ := hro
            have Hocell := Lib.hid hocell
            clear hocell
            have hown0 : (w5.alloc (.cells #[] 3)).ownsRow w5.heap.size 3 1 (.slice (some ⟨w5.heap.size, 0, none⟩) 0 0) 0 [] :=
              World.ownsRow_made w5 #[] 0 (Nat.le_refl _) (by unfold maxLen; omega) rfl
            have hb0 : Below w5.heap.size w5 (w5.alloc (.cells #[] 3)) := (Below.refl _ w5).alloc (Nat.le_refl _) _
            have habw : ad.block < w5.heap.size := Nat.lt_of_lt_of_le hab hbr.size
            have Hg5 := Lib.hid g1
            clear g1
            go_wp2
            go_loopw [5, 6, 7] (fun vn vlaid vk wr => ∃ (m : Nat) (laid : Bool) (next : List Int), vk = .int .i64 m ∧ m ≤ out.length ∧ vlaid = .bool laid ∧ Ins x out m laid next ∧ wr.ownsRow w5.heap.size 3 1 vn next.length (ints next) ∧ Below w5.heap.size w5 wr) (fun _ _ vk _ => out.length - (intOf vk).toNat)
            case atStart => exact ⟨0, false, [], rfl, Nat.zero_le _, rfl, ins_start x out, hown0, hb0⟩
            case round =>
              obtain ⟨m, laid, next, rfl, hm, rfl, hI, hown, hb1⟩ := hrel
              clear hown0 hb0
              have hnl := ins_len hI
              by_cases hmlt : m < out.length
              · obtain ⟨ao, hAo, haob, hgo⟩ := Hocell.out m hmlt
                subst hAo
                have hml : (m : Int) < (out.length : Int) := by omega
                have g2 : wr.cell? (ao.add m) = some (.int .i64 (out.getD m 0)) := (hb1.cell (by rw [add_block]; exact haob)).trans hgo
                have g1 : wr.cell? (ad.add k) = some (.int .i64 x) := (hb1.cell (by rw [add_block]; exact habw)).trans Hg5.out
                have Hgo := Lib.hid hgo
                clear hgo
                have Hlaid := Lib.hid (fun next h => ins_laid (x := x) (next := next) hmlt Hos.out.1 h)
                have Hlay := Lib.hid (fun next h => ins_lay (x := x) (out := out) (next := next) hmlt h)
                have Hless := Lib.hid (fun next h => ins_less (x := x) (out := out) (next := next) hmlt h Hni.out)
                generalize out.getD m 0 = y at g2 Hgo Hlaid Hlay Hless
                cases laid
                · have HI := Lib.hid hI
                  clear hI Hlaid
                  by_cases hxy : x < y
                  · have Hf := Lib.hid (Hlay.out next HI.out hxy)
                    go_wp2
                    go_quiet (fail)
                    have hownq : (wr.drewN nq).ownsRow w5.heap.size 3 1 _ next.length (ints next) := hown
                    have hbq : Below w5.heap.size w5 (wr.drewN nq) := below_drewN hb1 nq
                    have g1q : (wr.drewN nq).cell? (ad.add k) = some (.int .i64 x) := g1
                    have g2q : (wr.drewN nq).cell? (ao.add m) = some (.int .i64 y) := g2
                    clear hown hb1 g1 g2
                    generalize wr.drewN nq = wq at *
                    go_wp2_with (at_builtin; refine wpList_append_row rfl _ _ rfl w5.heap.size _ _ _ next [x] rfl rfl (hownq.alloc _) (Row.lit1 _ x) (by omega) (by simp) (by have := hbq.size; simp; omega) ?_)
                    intro v6 w6 hown6 hgrow
                    have hown6 : w6.ownsRow w5.heap.size 3 1 v6 (next ++ [x]).length (ints (next ++ [x])) := by rw [List.length_append]; exact hown6
                    have hb6 : Below w5.heap.size w5 w6 := (hbq.alloc hbq.size _).grown hgrow (by have := hbq.size; simp; omega) (fun i hi => (hownq.lt i hi).1)
                    clear hgrow hownq hbq
                    have g1' : w6.cell? (ad.add k) = some (.int .i64 x) := (hb6.cell (by rw [add_block]; exact habw)).trans Hg5.out
                    have g2' : w6.cell? (ao.add m) = some (.int .i64 y) := (hb6.cell (by rw [add_block]; exact haob)).trans Hgo.out
                    clear g1q g2q
                    go_wp2_with (at_builtin; refine wpList_append_row rfl _ _ rfl w5.heap.size _ _ _ (next ++ [x]) [y] rfl rfl (hown6.alloc _) (Row.lit1 _ y) (by rw [List.length_append]; show next.length + 1 ≤ _; omega) (by simp) (by have := hb6.size; simp; omega) ?_)
                    intro v7 w7 hown7 hgrow
                    have hown7 : w7.ownsRow w5.heap.size 3 1 v7 (next ++ [x] ++ [y]).length (ints (next ++ [x] ++ [y])) := by rw [show next ++ [x] ++ [y] = next ++ [x, y] from by simp, List.length_append]; exact hown7
                    have hb7 : Below w5.heap.size w5 w7 := (hb6.alloc hb6.size _).grown hgrow (by have := hb6.size; simp; omega) (fun i hi => (hown6.lt i hi).1)
                    clear hgrow hown6 hb6
                    go_wp2
                    go_roundw
                    case rel => exact ⟨m + 1, true, next ++ [x] ++ [y], by go_num, by omega, rfl, Hf.out, hown7, hb7⟩
                    case measure => simp [intOf]; omega
                  · have hxy' : decide (x < y) = false := by simp; omega
                    have Hf := Lib.hid (Hless.out next HI.out hxy)
                    go_wp2
                    go_quiet (fail)
                    have hownq : (wr.drewN nq).ownsRow w5.heap.size 3 1 _ next.length (ints next) := hown
                    have hbq : Below w5.heap.size w5 (wr.drewN nq) := below_drewN hb1 nq
                    have g1q : (wr.drewN nq).cell? (ad.add k) = some (.int .i64 x) := g1
                    have g2q : (wr.drewN nq).cell? (ao.add m) = some (.int .i64 y) := g2
                    clear hown hb1 g1 g2
                    generalize wr.drewN nq = wq at *
                    go_wp2_with (at_builtin; refine wpList_append_row rfl _ _ rfl w5.heap.size _ _ _ next [y] rfl rfl (hownq.alloc _) (Row.lit1 _ y) (by omega) (by simp) (by have := hbq.size; simp; omega) ?_)
                    intro v6 w6 hown6 hgrow
                    have hown6 : w6.ownsRow w5.heap.size 3 1 v6 (next ++ [y]).length (ints (next ++ [y])) := by rw [List.length_append]; exact hown6
                    have hb6 : Below w5.heap.size w5 w6 := (hbq.alloc hbq.size _).grown hgrow (by have := hbq.size; simp; omega) (fun i hi => (hownq.lt i hi).1)
                    clear hgrow hownq hbq
                    go_wp2
                    go_roundw
                    case rel => exact ⟨m + 1, false, next ++ [y], by go_num, by omega, rfl, Hf.out, hown6, hb6⟩
                    case measure => simp [intOf]; omega
                · have Hf := Lib.hid (Hlaid.out next hI)
                  clear hI Hlay Hless
                  go_wp2
                  go_quiet (fail)
                  have hownq : (wr.drewN nq).ownsRow w5.heap.size 3 1 _ next.length (ints next) := hown
                  have hbq : Below w5.heap.size w5 (wr.drewN nq) := below_drewN hb1 nq
                  have g1q : (wr.drewN nq).cell? (ad.add k) = some (.int .i64 x) := g1
                  have g2q : (wr.drewN nq).cell? (ao.add m) = some (.int .i64 y) := g2
                  clear hown hb1 g1 g2
                  generalize wr.drewN nq = wq at *
                  go_wp2_with (at_builtin; refine wpList_append_row rfl _ _ rfl w5.heap.size _ _ _ next [y] rfl rfl (hownq.alloc _) (Row.lit1 _ y) (by omega) (by simp) (by have := hbq.size; simp; omega) ?_)
                  intro v6 w6 hown6 hgrow
                  have hown6 : w6.ownsRow w5.heap.size 3 1 v6 (next ++ [y]).length (ints (next ++ [y])) := by rw [List.length_append]; exact hown6
                  have hb6 : Below w5.heap.size w5 w6 := (hbq.alloc hbq.size _).grown hgrow (by have := hbq.size; simp; omega) (fun i hi => (hownq.lt i hi).1)
                  clear hgrow hownq hbq
                  go_wp2
                  go_roundw
                  case rel => exact ⟨m + 1, true, next ++ [y], by go_num, by omega, rfl, Hf.out, hown6, hb6⟩
                  case measure => simp [intOf]; omega
              · have hme : m = out.length := by omega
                subst hme
                cases laid
                · have Hf := Lib.hid (ins_last hI)
                  clear hI
                  have g1 : wr.cell? (ad.add k) = some (.int .i64 x) := (hb1.cell (by rw [add_block]; exact habw)).trans Hg5.out
                  go_wp2_with (at_builtin; refine wpList_append_row rfl _ _ rfl w5.heap.size _ _ _ next [x] rfl rfl (hown.alloc _) (Row.lit1 _ x) (by omega) (by simp) (by have := hb1.size; simp; omega) ?_)
                  intro v6 w6 hown6 hgrow
                  have hown6 : w6.ownsRow w5.heap.size 3 1 v6 (next ++ [x]).length (ints (next ++ [x])) := by rw [List.length_append]; exact hown6
                  have hb6 : Below w5.heap.size w5 w6 := (hb1.alloc hb1.size _).grown hgrow (by have := hb1.size; simp; omega) (fun i hi => (hown.lt i hi).1)
                  clear hgrow hown hb1
                  go_wp2
                  go_roundw
                  case rel => exact ⟨k + 1, by go_num, by omega, by rw [Hx.out, ← Hf.out]; exact Row.of_own hown6 rfl, hbr.trans (hb6.mono hbr.size)⟩
                  case measure => simp [intOf]; omega
                · have Hf := Lib.hid (ins_done hI)
                  clear hI
                  go_wp2
                  go_roundw
                  case rel => exact ⟨k + 1, by go_num, by omega, by rw [Hx.out, ← Hf.out]; exact Row.of_own hown rfl, hbr.trans (hb1.mono hbr.size)⟩
                  case measure => simp [intOf]; omega
          · have hni : x ∈ out := by rw [← List.contains_iff_mem, hc]
            have Hx := Lib.hid (Hin.out hni)
            have Hc := Lib.hid hc
            clear Hno Hin Hins h0 h1 hni hc
            go_wp2_with fail
            refine (refin_is _ out x _ wr hro (by omega) Hc.out).mono ?_
            rintro e w5 ⟨rfl, rfl⟩
            go_wp2
            go_roundw
            case rel => exact ⟨k + 1, by go_num, by omega, by rw [Hx.out]; exact hro, hbr⟩
            case measure => simp [intOf]; omega
    · have hke : k = l.length := by omega
      subst hke
      rw [Hall.out] at hro
      go_wp2
      go_ret
      exact ⟨_, rfl, hro, hbr⟩

set_option maxHeartbeats 4000000 in
set_option maxRecDepth 100000 in
theorem refunion_any (va vb : Value) (a b : List Int) (w : World) (ha : Row w w.heap.size va a) (hb : Row w w.heap.size vb b) (hla : a.length ≤ 1048576) (hlb : b.length ≤ 1048576) :
    Calls Try.prog 33 #[va, vb] w (Gives w (unionL a b)) := by
  have Ha := Lib.hid ha
  have Hb := Lib.hid hb
  obtain ⟨A1, c1, rfl, _⟩ := ha
  obtain ⟨A2, c2, rfl, _⟩ := hb
  rcases hma : mayB a with _ | _
  · have Hr := Lib.hid (union_no1 (b := b) hma)
    have Hma := Lib.hid hma
    clear hma
    go_enter Try.func33, Try.ntmps33
    go_wp2_with fail
    refine (refmay_is _ a w Ha.out (by omega) Hma.out).mono ?_
    rintro e w1 ⟨rfl, hb1⟩
    go_wp2
    go_ret
    exact gives_nil w hb1 Hr.out
  · rcases hmb : mayB b with _ | _
    · have Hr := Lib.hid (union_no2 (a := a) hmb)
      have Hma := Lib.hid hma
      have Hmb := Lib.hid hmb
      clear hma hmb
      go_enter Try.func33, Try.ntmps33
      go_wp2_with fail
      refine (refmay_is _ a w Ha.out (by omega) Hma.out).mono ?_
      rintro e w1 ⟨rfl, hb1⟩
      go_wp2_with fail
      refine (refmay_is _ b w1 ((Hb.out.below hb1).mono hb1.size) (by omega) Hmb.out).mono ?_
      rintro e w2 ⟨rfl, hb2⟩
      go_wp2
      go_ret
      exact gives_nil w (hb1.trans (hb2.mono hb1.size)) Hr.out
    · have Hr := Lib.hid (union_yes hma hmb)
      have Hma := Lib.hid hma
      have Hmb := Lib.hid hmb
      clear hma hmb
      go_enter Try.func33, Try.ntmps33
      go_wp2_with fail
      refine (refmay_is _ a w Ha.out (by omega) Hma.out).mono ?_
      rintro e w1 ⟨rfl, hb1⟩
      go_wp2_with fail
      refine (refmay_is _ b w1 ((Hb.out.below hb1).mono hb1.size) (by omega) Hmb.out).mono ?_
      rintro e w2 ⟨rfl, hb2⟩
      have hB2 : Below w.heap.size w w2 := hb1.trans (hb2.mono hb1.size)
      clear hb1 hb2
      have hown0 : (w2.alloc (.cells #[] 3)).ownsRow w.heap.size 3 1 (.slice (some ⟨w2.heap.size, 0, none⟩) 0 0) ([] : List Int).length (ints []) :=
        World.ownsRow_made w2 #[] 0 hB2.size (by unfold maxLen; omega) rfl
      have hB3 : Below w.heap.size w (w2.alloc (.cells #[] 3)) := hB2.alloc hB2.size _
      have Ha3 := Lib.hid (Ha.out.below hB3)
      go_wp2_with (at_builtin; refine wpList_append_row rfl _ _ rfl w.heap.size w.heap.size _ _ [] a rfl rfl hown0 Ha3.out (by simp) (by omega) hB3.size ?_)
      intro v4 w4 hown4 hg4
      have hB4 : Below w.heap.size w w4 := hB3.grown hg4 hB3.size (fun i hi => (hown0.lt i hi).1)
      have Hb4 := Lib.hid (Hb.out.below hB4)
      clear hg4 hown0 hB3 hB2
      go_wp2_with (at_builtin; refine wpList_append_row rfl _ _ rfl w.heap.size w.heap.size _ _ a b rfl rfl hown4 Hb4.out (by omega) (by omega) hB4.size ?_)
      intro v5 w5 hown5 hg5
      have hB5 : Below w.heap.size w w5 := hB4.grown hg5 hB4.size (fun i hi => (hown4.lt i hi).1)
      clear hg5 hown4 hB4
      go_wp2_with fail
      refine (refsort_any v5 (a ++ b) w5 (Row.of_own hown5 (by simp)) (by rw [List.length_append]; omega)).mono ?_
      rintro e w6 ⟨v6, rfl, hr6, hb6⟩
      go_wp2
      go_ret
      exact ⟨_, rfl, by rw [Hr.out]; exact hr6, hB5.trans (hb6.mono hB5.size)⟩

end Wp
end Go.Proofs.Ytmgfhehnehcmpaa
