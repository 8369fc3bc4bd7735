/- The queue: the program's New, Push, Pop, Len, walked: it holds what was put in, and gives the least. -/
import Derived.Test.YtcdfjhmlpdhelaaODown
namespace Go.Proofs.Ytcdfjhmlpdhelaa
open Go Go.RowKit
namespace Wp

/-- A queue that holds these pairs, in whatever order. -/
def HQ (w : World) (F : Nat → Prop) (q : Nat) (ms : List (Int × Int)) : Prop := ∃ ps : List (Int × Int), ps.Perm ms ∧ HeapTo ps.length ps ∧ Qu w F q ps
def qV (q : Nat) : Value := .pointer (some ⟨q, 0, none⟩)
section
variable {w w' : World} {F : Nat → Prop} {q : Nat} {ms : List (Int × Int)}
theorem HQ.quiet (h : HQ w F q ms) (hb : Below w.heap.size w w') : HQ w' F q ms := let ⟨ps, h1, h2, h3⟩ := h; ⟨ps, h1, h2, h3.quiet hb⟩
theorem HQ.more (h : HQ w F q ms) (hb : Below w.heap.size w w') : HQ w' (fun i => F i ∨ (w.heap.size ≤ i ∧ i < w'.heap.size)) q ms := let ⟨ps, h1, h2, h3⟩ := h; ⟨ps, h1, h2, h3.more hb⟩
theorem HQ.less {G : Nat → Prop} (h : HQ w F q ms) (hG : ∀ i, G i → F i) : HQ w G q ms := let ⟨ps, h1, h2, h3⟩ := h; ⟨ps, h1, h2, h3.less hG⟩
theorem HQ.perm {ns : List (Int × Int)} (h : HQ w F q ms) (hp : ms.Perm ns) : HQ w F q ns := let ⟨ps, h1, h2, h3⟩ := h; ⟨ps, h1.trans hp, h2, h3⟩
end

set_option maxHeartbeats 8000000 in
set_option maxRecDepth 1000000 in
theorem hpush_any (F : Nat → Prop) (q : Nat) (ms : List (Int × Int)) (p : Int × Int) (hl : ms.length ≤ 1048576) (w : World) (h : HQ w F q ms) :
    Calls Try.prog 43 #[ivQ q, pairV p] w fun e w' => e = .returned (.tuple #[]) ∧ HQ w' F q (p :: ms) ∧ Fk F w w' := by
  obtain ⟨ps, hp, hh, hq⟩ := h
  have hlen := hp.length_eq
  have HP := Lib.hid hp
  have HH := Lib.hid hh
  have HQ0 := Lib.hid hq
  have m1 := fun n => mPush q w n
  unfold ivQ
  clear hp hh hq
  go_enter Try.func43, Try.ntmps43
  go_wp2_with fail
  refine (ppush_any F q ps p (by omega) w HQ0.out).mono ?_
  rintro e w1 ⟨rfl, hq1, hk1⟩
  obtain ⟨v, hv⟩ := id hq1
  have m2 := fun n => mLen q w1 v n hv.cell
  have HV := Lib.hid hv
  have HQ1 := Lib.hid hq1
  have HK1 := Lib.hid hk1
  clear hv hq1 hk1 m1
  go_wp2_with fail
  refine (len_any v (ps ++ [p]) w1 HV.out.own).mono ?_
  rintro e w2 ⟨rfl, hw2⟩
  replace hw2 := hw2.symm
  subst hw2
  have hu := up_any F q (ps ++ [p]) ps.length (by simp) (by simp; omega) (HH.out.push p) w1 HQ1.out
  unfold ivQ at hu
  rw [hlen] at hu
  have HU := Lib.hid hu
  have hw : wrap64 (ms.length : Int) = (ms.length : Int) := by unfold wrap64; omega
  clear hu
  go_wp2_with fail
  refine HU.out.mono ?_
  rintro e w3 ⟨rfl, ps', hp', hh', hq', hk'⟩
  have h1 : HQ w3 F q (p :: ms) := ⟨ps', hp'.trans (List.perm_append_comm.trans (HP.out.cons p)), hh', hq'⟩
  have h2 := HK1.out.trans hk'
  clear hp' hh' hq' hk'
  go_wp2
  go_end0
  exact ⟨rfl, h1, h2⟩

/-- The first one, of a heap, is the least. -/
theorem heap_first {ps ms rest : List (Int × Int)} {x : Int × Int} (hp : ps.Perm ms) (hh : HeapTo ps.length ps) (hm : ms.Perm (x :: rest)) (hx : ∀ y ∈ ms, ¬ ltP y x) : atP ps 0 = x := by
  have hl := (hp.trans hm).length_eq
  have hmem : x ∈ ps := (hp.trans hm).mem_iff.2 (by simp)
  obtain ⟨i, hi, rfl⟩ := mem_atP hmem
  exact (ltP_antisymm (hh.least i hi) (hx _ (hp.mem_iff.1 (atP_mem (by omega))))).symm ▸ rfl

set_option maxHeartbeats 8000000 in
set_option maxRecDepth 1000000 in
theorem hpop_any (F : Nat → Prop) (q : Nat) (ms rest : List (Int × Int)) (x : Int × Int) (hm : ms.Perm (x :: rest)) (hx : ∀ y ∈ ms, ¬ ltP y x) (hl : ms.length ≤ 1048576) (w : World) (h : HQ w F q ms) :
    Calls Try.prog 44 #[ivQ q] w fun e w' => e = .returned (pairV x) ∧ HQ w' F q rest ∧ Fk F w w' := by
  obtain ⟨ps, hp, hh, v, hv⟩ := h
  obtain ⟨n, hn⟩ : ∃ n, ps.length = n + 1 := ⟨rest.length, by rw [(hp.trans hm).length_eq]; rfl⟩
  have hx0 := heap_first hp hh hm hx
  have hlen := hp.length_eq
  have hnl : n ≤ 1048576 := by omega
  have HP := Lib.hid (hp.trans hm)
  have HH := Lib.hid hh
  have HV := Lib.hid hv
  have HX := Lib.hid hx0
  have hL := len_any v ps w hv.own
  rw [hn] at hL
  have HL := Lib.hid hL
  have HN := Lib.hid hn
  have hS := fun W (hW : OwnP W v ps) => swap_any v ps 0 n (by omega) (by omega) W hW
  have HS := Lib.hid hS
  have m1 := fun n => mLen q w v n hv.cell
  have m2 := fun n => mSwap q w v n hv.cell
  have hw : wrap64 (n : Int) = (n : Int) := by unfold wrap64; omega
  unfold ivQ
  clear hp hh hv hx0 hL hn hS hm hx hlen hl
  go_enter Try.func44, Try.ntmps44
  go_wp2_with fail
  refine HL.out.mono ?_
  rintro e w0 ⟨rfl, hw0⟩
  replace hw0 := hw0.symm
  subst hw0
  go_wp2_with fail
  refine (HS.out w HV.out.own).mono ?_
  rintro e w1 ⟨rfl, ho, hg⟩
  obtain ⟨hq1, hk1⟩ := HV.out.swap ho hg
  have hd := down_any F q n (swapL ps 0 n) (by rw [swapL_length, HN.out]; omega) (by rw [swapL_length, HN.out]; omega) (HH.out.pop HN.out) w1 ⟨v, hq1⟩
  unfold ivQ at hd
  have HD := Lib.hid hd
  have HK1 := Lib.hid hk1
  clear ho hg hq1 hk1 hd m1 m2
  go_wp2_with fail
  refine HD.out.mono ?_
  rintro e w2 ⟨⟨b, rfl⟩, ps', hlen', hp', hh', hat', hq', hk'⟩
  have hn' : ps'.length = n + 1 := by rw [hlen', swapL_length, HN.out]
  have hpo := ppop_any F q n ps' hn' w2 hq'
  have hat : atP ps' n = x := by
    rw [hat', atP_swap ps 0 n n (by rw [HN.out]; omega) (by rw [HN.out]; omega), if_pos rfl, HX.out]
  rw [hat] at hpo
  have HPO := Lib.hid hpo
  have hperm : (ps'.take n).Perm rest := by
    have h1 := dropLast_eq hn'
    rw [hat] at h1
    have h2 : ps'.Perm (x :: rest) := (hp'.trans (swapL_perm ps 0 n (by rw [HN.out]; omega) (by rw [HN.out]; omega))).trans HP.out
    rw [h1] at h2
    exact (List.perm_cons x).1 (List.perm_append_comm.trans h2)
  have HPE := Lib.hid hperm
  have HT := Lib.hid hh'.take
  have HK2 := Lib.hid hk'
  have hln : (ps'.take n).length = n := by rw [List.length_take]; omega
  have HLN := Lib.hid hln
  have m3 := fun n => mPop q w2 n
  clear hperm hat hpo hk' hq' hat' hh' hp' hlen' hn' hln
  go_wp2_with fail
  refine HPO.out.mono ?_
  rintro e w3 ⟨rfl, hq3, hk3⟩
  have h1 : HQ w3 F q rest := ⟨ps'.take n, HPE.out, by rw [HLN.out]; exact HT.out, hq3⟩
  have h2 := (HK1.out.trans HK2.out).trans hk3
  clear hq3 hk3
  go_wp2
  go_ret
  exact ⟨rfl, h1, h2⟩

end Wp
end Go.Proofs.Ytcdfjhmlpdhelaa
