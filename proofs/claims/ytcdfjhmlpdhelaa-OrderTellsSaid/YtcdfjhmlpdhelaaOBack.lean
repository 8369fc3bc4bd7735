/- A pair is put behind the others, and the last one is taken: the program's own Push and Pop of pairs, walked. -/
import Derived.Test.YtcdfjhmlpdhelaaOLess
import Derived.Deep.AppendLies
import Derived.Deep.RegionLaw
namespace Go.Proofs.Ytcdfjhmlpdhelaa
open Go Go.RowKit
namespace Wp

theorem assert_pair (x y : Value) (w : World) : Sem.run Try.prog (Instr.typeAssert (.iface 66 (.agg #[x, y])) 20 66 false) w = .ok (.agg #[x, y]) w := by kernel_rfl
def pairV (p : Int × Int) : Value := .iface 66 (.agg #[.int .i64 p.1, .int .i64 p.2])

set_option maxHeartbeats 8000000 in
set_option maxRecDepth 1000000 in
theorem ppop_any (F : Nat → Prop) (q n : Nat) (ps : List (Int × Int)) (hn : ps.length = n + 1) (w : World) (h : Qu w F q ps) :
    Calls Try.prog 118 #[.pointer (some ⟨q, 0, none⟩)] w fun e w' => e = .returned (pairV (atP ps n)) ∧ Qu w' F q (ps.take n) ∧ Fk F w w' := by
  obtain ⟨v, hv⟩ := h
  obtain ⟨g, cap, cur, hb⟩ := hv.own.some_ (by omega)
  obtain ⟨c1, c2⟩ := hb.cells n (by omega)
  have hval := hb.val
  subst hval
  have cq := hv.blk.cell 0
  have fq := hv.blk.frozen 0
  simp only [List.getElem?_toArray, List.getElem?_cons_zero] at cq
  have hcapI : (n : Int) ≤ (cap : Int) := by have := hb.le; omega
  rw [hn] at cq
  have hw64 : wrap64 (n : Int) = (n : Int) := by
    have h1 := hb.le
    have h2 := hb.mx
    unfold maxLen at h2
    unfold wrap64
    omega
  have hql := hv.blk.lt
  have hgl := hb.blk.lt
  have HV := Lib.hid hv
  have HB := Lib.hid hb
  clear hv hb
  go_enter Try.func118, Try.ntmps118
  go_wp2
  have h1 := HV.out.blk.set_ 0 (.slice (some ⟨g, 0, none⟩) n cap)
  have h2 : PBlk (w.setCell ⟨q, 0, none⟩ (.slice (some ⟨g, 0, none⟩) n cap)) g cap (.slice (some ⟨g, 0, none⟩) n cap) (ps.take n) cur := by
    have hlt : (ps.take n).length = n := by rw [List.length_take]; omega
    refine ⟨by rw [hlt], HB.out.blk.far (fun e => HV.out.apart (by rw [show q = g from e.symm]; rfl)) _, by rw [hlt]; have := HB.out.le; omega, HB.out.mx, HB.out.sz, ?_⟩
    rw [hlt, ← flatP_take, ← HB.out.tk, List.take_take, Nat.min_eq_left (by omega)]
  have h3 : Que (w.setCell ⟨q, 0, none⟩ (.slice (some ⟨g, 0, none⟩) n cap)) F q (.slice (some ⟨g, 0, none⟩) n cap) (ps.take n) :=
    ⟨h1, h2.own, HV.out.apart, fun i hi => ⟨by have := (HV.out.far i hi).1; simpa [World.setCell] using this, (HV.out.far i hi).2⟩⟩
  have h4 := only_setCell (only_self w (some q)) (p := ⟨q, 0, none⟩) (.inl rfl) (.slice (some ⟨g, 0, none⟩) n cap)
  have h5 := Fk.of_grown (F := F) (only_alloc h4 (Obj.cells #[.int .i64 (atP ps n).1, .int .i64 (atP ps n).2] 66)) fun i hi e => (HV.out.far i hi).2.1 (by injection e with e; exact e.symm)
  have h6 := h3.quiet ((Below.refl _ _).alloc (Nat.le_refl _) (Obj.cells #[.int .i64 (atP ps n).1, .int .i64 (atP ps n).2] 66))
  go_ret
  exact ⟨rfl, ⟨_, h6⟩, h5⟩

theorem OwnP.new {w : World} {v : Value} {ps : List (Int × Int)} (h : OwnP w v ps) (o : Obj) : OwnP (w.alloc o) v ps := World.ownsRow.alloc h o
theorem step_push (ops : Array Oper) (o : Oper) (a : Act) (K : Act → World → Prop) (Q : Exit → Act → World → Prop) (E : Prop) (hgd : o.guard = none) (s x : Operand)
    (ho : o.op = .call { callee := .builtin .append, args := #[s, x], argTypes := #[60, 60] }) (w : World) (v : Value) (ps : List (Int × Int)) (p : Int × Int) (hs : a.eval s = v) (hown : OwnP w v ps) (hl : ps.length ≤ 1048576)
    (g : Nat) (hx : a.eval x = .slice (some ⟨g, 0, none⟩) 1 1) (hb : Blk w g 66 #[.int .i64 p.1, .int .i64 p.2]) (H : Nat) (hH : w.heap.size = H)
    (h : ∀ g' c' w', OwnP w' (.slice (some ⟨g', 0, none⟩) (ps.length + 1) c') (ps ++ [p]) → w.grownBy w' v.ownBlock → (v.ownBlock = some g' ∨ g' = H) → K (a.put o.dst (.slice (some ⟨g', 0, none⟩) (ps.length + 1) c')) w') :
    if Region.wanted o (yielded ops a.tmps) = true then Oper.wp Try.prog o a w K Q else E := by
  obtain ⟨i0, hi, hz0, hz1, hz2⟩ := info_parts infoP
  refine step_append_lies _ hgd s x 60 ho 0 66 i0 (.agg #[.int .i64 0, .int .i64 0]) 2 16 (by kernel_rfl) hi hz0 hz1 hz2 rfl (by decide) v ps.length (flatP ps) hs hown ⟨g, 0, none⟩ 1 1 [.int .i64 p.1, .int .i64 p.2] hx rfl (World.news_of_block hb) (flatP_one [p]) (by decide) (by unfold maxLen; omega) (by omega) (Nat.zero_le _) H hH ?_
  intro g' cap w4 hown' hgrow hloc _
  refine h _ _ w4 ?_ hgrow hloc
  unfold OwnP
  rw [flatP_append, List.length_append]
  exact hown'

set_option maxHeartbeats 8000000 in
set_option maxRecDepth 1000000 in
theorem ppush_any (F : Nat → Prop) (q : Nat) (ps : List (Int × Int)) (p : Int × Int) (hl : ps.length ≤ 1048576) (w : World) (h : Qu w F q ps) :
    Calls Try.prog 119 #[.pointer (some ⟨q, 0, none⟩), pairV p] w fun e w' => e = .returned (.tuple #[]) ∧ Qu w' F q (ps ++ [p]) ∧ Fk F w w' := by
  obtain ⟨v, hv⟩ := h
  have cq := hv.blk.cell 0
  have fq := hv.blk.frozen 0
  simp only [List.getElem?_toArray, List.getElem?_cons_zero] at cq
  have hql := hv.blk.lt
  obtain ⟨A, cap, rfl⟩ := hv.own.slice
  have HV := Lib.hid hv
  have hta := assert_pair (.int .i64 p.1) (.int .i64 p.2)
  unfold pairV
  clear hv
  go_enter Try.func119, Try.ntmps119
  go_wp2
  go_region_law (refine step_push _ _ _ _ _ _ rfl _ _ rfl _ _ ps p rfl (OwnP.drew (OwnP.new HV.out.own _)) hl _ rfl (Blk.drew (Blk.new _ _ _)) _ rfl ?_; intro g' c' w4 hown' hgrow hloc; have hb4 := ((HV.out.blk.alloc (Obj.cells #[.int .i64 p.1, .int .i64 p.2] 66)).drew).grown hgrow (fun e => HV.out.apart e.symm); have c4 := hb4.cell 0; have f4 := hb4.frozen 0; simp only [List.getElem?_toArray, List.getElem?_cons_zero] at c4)
  all_goals
    have hgr : (w.alloc (Obj.cells #[.int .i64 p.1, .int .i64 p.2] 66)).drew.grownBy w4 (Value.slice A ps.length cap).ownBlock := hgrow
    have hlo : (Value.slice A ps.length cap).ownBlock = some g' ∨ g' = w.heap.size + 1 := by
      rcases hloc with h | h
      · exact .inl h
      · refine .inr (h.trans ?_)
        simp
    clear hgrow hloc
    have hgq : g' ≠ q := by
      rintro rfl
      rcases hlo with h | h
      · exact HV.out.apart h
      · omega
    have k1 : Fk F w (w.alloc (Obj.cells #[.int .i64 p.1, .int .i64 p.2] 66)).drew := Fk.of_below ((Below.refl _ w).alloc (Nat.le_refl _) _).drew
    have k2 : Fk F (w.alloc (Obj.cells #[.int .i64 p.1, .int .i64 p.2] 66)).drew w4 := Fk.of_grown hgr fun i hi => (HV.out.far i hi).2.2
    have k3 : Fk F w4 (w4.setCell ⟨q, 0, none⟩ (.slice (some ⟨g', 0, none⟩) (ps.length + 1) c')) :=
      Fk.of_grown (only_setCell (only_self w4 (some q)) (p := ⟨q, 0, none⟩) (.inl rfl) _) fun i hi e => (HV.out.far i hi).2.1 (by injection e with e; exact e.symm)
    have k4 := (k1.trans k2).trans k3
    have hq : Que (w4.setCell ⟨q, 0, none⟩ (.slice (some ⟨g', 0, none⟩) (ps.length + 1) c')) F q (.slice (some ⟨g', 0, none⟩) (ps.length + 1) c') (ps ++ [p]) := by
      refine ⟨hb4.set_ 0 _, hown'.kept (only_setCell (only_self w4 (some q)) (p := ⟨q, 0, none⟩) (.inl rfl) _) (.inr fun e => ?_), fun e => ?_, fun i hi => ⟨Nat.lt_of_lt_of_le (HV.out.far i hi).1 k4.size, (HV.out.far i hi).2.1, fun e => ?_⟩⟩
      · exact hgq (Option.some.inj e)
      · exact hgq (Option.some.inj e)
      · have e : g' = i := Option.some.inj e
        subst e
        have hf := HV.out.far g' hi
        rcases hlo with h | h
        · exact hf.2.2 h
        · omega
    go_end0
    exact ⟨rfl, ⟨_, hq⟩, k4⟩

end Wp
end Go.Proofs.Ytcdfjhmlpdhelaa
