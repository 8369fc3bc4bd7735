/- The document's queue, walked: Push, and which of two comes ahead. -/
import Derived.Test.YtcdfjhmlpdhelaaOFixed
import Derived.Test.YtcdfjhmlpdhelaaOLawP
namespace Go.Proofs.Ytcdfjhmlpdhelaa
open Go Go.RowKit
namespace Wp

theorem infoE : (Try.prog.info? 67).map (fun i => (i.zero, i.size, i.bytes)) = some (some (.agg #[.int .i64 0, .int .i64 0]), 2, 16) := by kernel_rfl
/-- The call's own pairs, as arrays of two. -/
def OwnR2 (w : World) (v : Value) (ps : List (Int × Int)) : Prop := w.ownsRow 0 67 2 v ps.length (flatP ps)
theorem OwnR2.slice {w : World} {v : Value} {ps : List (Int × Int)} (h : OwnR2 w v ps) : ∃ A cap, v = .slice A ps.length cap := by
  rcases h.2 with ⟨rfl, h0⟩ | ⟨g, cap, _, hv, _⟩
  · exact ⟨none, 0, by rw [h0]⟩
  · exact ⟨_, cap, hv⟩
theorem OwnR2.cells {w : World} {A : Option Addr} {n cap : Nat} {ps : List (Int × Int)} (h : OwnR2 w (.slice A n cap) ps) (k : Nat) (hk : k < ps.length) :
    ∃ g : Nat, A = some ⟨g, 0, none⟩ ∧ g < w.heap.size ∧ w.cell? ⟨g, k * 2, none⟩ = some (.int .i64 (atP ps k).1) ∧ w.cell? ⟨g, k * 2 + 1, none⟩ = some (.int .i64 (atP ps k).2) := by
  rcases h.2 with ⟨_, h0⟩ | ⟨g, cap', cur, hv, _, hg, h1, h2, h3, h4⟩
  · omega
  · injection hv with e1 e2 e3
    subst e1
    have hb : Blk w g 67 cur := hg
    have ha := flatP_at ps k hk
    rw [← h4, List.getElem?_take, List.getElem?_take, if_pos (by omega), if_pos (by omega)] at ha
    refine ⟨g, rfl, hb.lt, ?_, ?_⟩
    · rw [hb.cell]; simpa using ha.1
    · rw [hb.cell]; simpa using ha.2

/-- 'append(v, ys...)', both the call's own. -/
theorem wpList_append_two {w : World} {ops : Array Oper} {rest : List Oper} {o : Oper} {a : Act} {Q : Exit → Act → World → Prop} (hgd : o.guard = none) (s x : Operand)
    (ho : o.op = .call { callee := .builtin .append, args := #[s, x], argTypes := #[38, 38] })
    (base : Nat) (v v2 : Value) (zs ys : List (Int × Int)) (hs : a.eval s = v) (hx : a.eval x = v2) (hown : w.ownsRow base 67 2 v zs.length (flatP zs)) (hr : OwnR2 w v2 ys)
    (hz : zs.length ≤ 1048576) (hy : ys.length ≤ 1048576) (hb : base ≤ w.heap.size)
    (h : ∀ v' w', w'.ownsRow base 67 2 v' (zs ++ ys).length (flatP (zs ++ ys)) → w.grownBy w' v.ownBlock → wpList Try.prog ops Q rest (a.put o.dst v') w') : wpList Try.prog ops Q (o :: rest) a w := by
  obtain ⟨i0, hi, hz0, hz1, hz2⟩ := info_parts infoE
  rcases hr.2 with ⟨rfl, h0⟩ | ⟨g, cap, cur, hv, _, hg, h1, h2, h3, h4⟩
  · have : ys = [] := List.eq_nil_of_length_eq_zero h0
    subst this
    refine wpList_append_own_none hgd s x _ ho base 67 i0 2 (by kernel_rfl) hi v zs.length (flatP zs) hs hown hx ?_
    exact h v w (by rw [List.append_nil]; exact hown) ⟨rfl, rfl, rfl, Nat.le_refl _, fun _ _ _ => rfl⟩
  · subst hv
    refine wpList_append_own w hgd s x _ ho base 67 i0 (.agg #[.int .i64 0, .int .i64 0]) 2 16 (by kernel_rfl) hi hz0 hz1 hz2 rfl (by decide) v zs.length (flatP zs) hs hown ⟨g, 0, none⟩ ys.length cap (flatP ys) hx (flatP_length ys) (World.ownsRow.cells hr rfl) (flatP_one ys) ?_ ?_ hb ?_
    · unfold maxLen; omega
    · omega
    · intro v' w' k1 k2 _
      refine h v' w' ?_ k2
      rw [flatP_append, List.length_append]
      exact k1

theorem own_any {w : World} {base n : Nat} {e : TypeId} {size : Nat} {v : Value} {xs : List Value} (h : w.ownsRow base e size v n xs) : w.ownsRow 0 e size v n xs :=
  ⟨h.1, h.2.imp id fun ⟨g, cap, cur, h1, _, h2⟩ => ⟨g, cap, cur, h1, Nat.zero_le _, h2⟩⟩
/-- The document's queue. -/
structure RQ (w : World) (F : Nat → Prop) (q : Nat) (v : Value) (ps : List (Int × Int)) : Prop where
  blk : Blk w q 40 #[v]
  mine : F q
  own : OwnR2 w v ps
  apart : v.ownBlock ≠ some q
  far : ∀ i, v.ownBlock = some i → F i
/-- A queue's slice is stored: what it holds lies in new memory. -/
theorem rq_store {w w2 : World} {F : Nat → Prop} {q : Nat} {v v2 : Value} {ps qs : List (Int × Int)} (h : RQ w F q v ps) (hb : Below w.heap.size w w2) (ho : w2.ownsRow w.heap.size 67 2 v2 qs.length (flatP qs)) :
    w.grownBy (w2.setCell ⟨q, 0, none⟩ v2) (some q) ∧ ∃ v', RQ (w2.setCell ⟨q, 0, none⟩ v2) (fun i => F i ∨ (w.heap.size ≤ i ∧ i < (w2.setCell ⟨q, 0, none⟩ v2).heap.size)) q v' qs := by
  have hql := h.blk.lt
  have hg := only_setCell (only_self w2 (some q)) (p := ⟨q, 0, none⟩) (.inl rfl) v2
  have hne : v2.ownBlock ≠ some q := fun e => by
    have := World.ownsRow.lt ho q e
    omega
  refine ⟨only_trans (only_of_below hb (some q)) hg, v2, (h.blk.below hb hql).set_ 0 v2, .inl h.mine, World.ownsRow.kept (own_any ho) hg (.inr hne), hne, fun i hi => .inr ?_⟩
  have := World.ownsRow.lt ho i hi
  have := hg.size
  omega


theorem RQ.fk {w w' : World} {F : Nat → Prop} {q : Nat} {v : Value} {ps : List (Int × Int)} (h : RQ w F q v ps) (hk : Fk F w w') : RQ w' F q v ps := by
  refine ⟨(hk.block q h.blk.lt h.mine).trans h.blk, h.mine, ?_, h.apart, h.far⟩
  refine ⟨h.own.1, ?_⟩
  rcases h.own.2 with hn | ⟨g, cap, cur, hv, hb, hg, rest⟩
  · exact .inl hn
  · exact .inr ⟨g, cap, cur, hv, hb, (hk.block g ((World.ownsRow.lt h.own g (by rw [hv]; rfl)).2) (h.far g (by rw [hv]; rfl))).trans hg, rest⟩
theorem RQ.cell {w : World} {F : Nat → Prop} {q : Nat} {v : Value} {ps : List (Int × Int)} (h : RQ w F q v ps) : w.cell? ⟨q, 0, none⟩ = some v := by
  have := h.blk.cell 0
  simpa using this
/-- What turns one block of others' leaves the queue; what is new is others'. -/
theorem HQ.other {w w' : World} {F : Nat → Prop} {q g : Nat} {ms : List (Int × Int)} (h : HQ w F q ms) (hg : w.grownBy w' (some g)) (hF : F g) : HQ w' (fun i => F i ∨ (w.heap.size ≤ i ∧ i < w'.heap.size)) q ms := by
  obtain ⟨ps, h1, h2, v, hv⟩ := h
  have hf := hv.far g hF
  refine ⟨ps, h1, h2, v, hv.blk.grown hg (fun e => hf.2.1 (Option.some.inj e).symm), hv.own.kept hg (.inr hf.2.2), hv.apart, fun i hi => ?_⟩
  rcases hi with hi | hi
  · exact ⟨Nat.lt_of_lt_of_le (hv.far i hi).1 hg.size, (hv.far i hi).2⟩
  · refine ⟨hi.2, ?_, fun e => ?_⟩
    · have := hv.blk.lt
      omega
    · have := hv.own.lt i e
      omega

set_option maxHeartbeats 8000000 in
set_option maxRecDepth 1000000 in
theorem rpush_any (F : Nat → Prop) (q : Nat) (v : Value) (ps : List (Int × Int)) (k i : Int) (hl : ps.length ≤ 1048575) (w : World) (h : RQ w F q v ps) :
    Calls Try.prog 27 #[.pointer (some ⟨q, 0, none⟩), .int .i64 k, .int .i64 i] w fun e w' => e = .returned (.tuple #[]) ∧ w.grownBy w' (some q) ∧ ∃ v', RQ w' (fun i => F i ∨ (w.heap.size ≤ i ∧ i < w'.heap.size)) q v' (ps ++ [(k, i)]) := by
  have hc := h.cell
  have hfz := h.blk.frozen 0
  have hql := h.blk.lt
  have HR := Lib.hid h
  have H0 : Hid ((w.alloc (.cells #[] 67)).ownsRow w.heap.size 67 2 (.slice (some ⟨w.heap.size, 0, none⟩) 0 0) 0 []) := Lib.hid (World.ownsRow_made w #[] 0 (Nat.le_refl _) (by unfold maxLen; omega) rfl)
  have HA : Hid (OwnR2 (w.alloc (.cells #[] 67)) v ps) := Lib.hid (World.ownsRow.alloc h.own _)
  obtain ⟨qs, hqs⟩ : ∃ qs, ps ++ [(k, i)] = qs := ⟨_, rfl⟩
  rw [hqs]
  have HQS := Lib.hid hqs
  clear h hqs
  go_enter Try.func27, Try.ntmps27
  go_wp2_with (at_builtin; refine wpList_append_two rfl _ _ rfl w.heap.size _ _ [] ps rfl rfl H0.out HA.out (by simp) (by omega) (by simp) ?_)
  intro v1 w1 hown1 hg1
  have hown1' : w1.ownsRow w.heap.size 67 2 v1 ps.length (flatP ps) := hown1
  have hb1 : Below w.heap.size w w1 := ((Below.refl _ w).alloc (Nat.le_refl _) _).grown hg1 (by simp) (fun i hi => by
    have : w.heap.size = i := Option.some.inj hi
    omega)
  have HB1 := Lib.hid hb1
  have HO1 := Lib.hid hown1'
  have hs1 := hb1.size
  clear hown1 hown1' hg1 hb1
  have HL : Hid (OwnR2 (w1.alloc (.cells #[.int .i64 k, .int .i64 i] 67)) (.slice (some ⟨w1.heap.size, 0, none⟩) 1 1) [(k, i)]) := Lib.hid ⟨rfl, .inr ⟨w1.heap.size, 1, _, rfl, Nat.zero_le _, heap_alloc_new w1 _, Nat.le_refl _, by decide, rfl, rfl⟩⟩
  go_wp2_with (at_builtin; refine wpList_append_two rfl _ _ rfl w.heap.size _ _ ps [(k, i)] rfl rfl (World.ownsRow.alloc HO1.out _) HL.out (by omega) (by simp) (by simp; omega) ?_)
  intro v2 w2 hown2 hg2
  have hown2' : w2.ownsRow w.heap.size 67 2 v2 (ps ++ [(k, i)]).length (flatP (ps ++ [(k, i)])) := by rw [List.length_append]; exact hown2
  rw [HQS.out] at hown2'
  have hb2 : Below w.heap.size w w2 := (HB1.out.alloc hs1 _).grown hg2 (by simp; omega) (fun i hi => (World.ownsRow.lt HO1.out i hi).1)
  have hc2 : w2.cell? ⟨q, 0, none⟩ = some v := (hb2.cell hql).trans hc
  have hf2 : w2.frozen? ⟨q, 0, none⟩ = false := (HR.out.blk.below hb2 hql).frozen 0
  obtain ⟨A2, c2, rfl⟩ := OwnR2.slice (own_any hown2')
  have HE := Lib.hid (rq_store HR.out hb2 hown2')
  clear hg2 hb2 hown2 hown2'
  go_wp2
  go_end0
  exact ⟨rfl, HE.out.1, HE.out.2⟩

end Wp
end Go.Proofs.Ytcdfjhmlpdhelaa
