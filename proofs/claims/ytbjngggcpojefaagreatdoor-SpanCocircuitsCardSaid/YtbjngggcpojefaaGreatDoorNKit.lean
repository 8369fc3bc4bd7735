/- A set's Has, and a set with one element more, walked. -/
import Derived.Test.YtbjngggcpojefaaGreatDoorIKeep
import Derived.Test.YtbjngggcpojefaaGreatDoorIUnion
import Derived.Test.YtbjngggcpojefaaGreatDoorNPure
namespace Go.Proofs.YtbjngggcpojefaaGreatDoor
open Go.RowKit
namespace Wp

theorem scontains_any (v : Value) (l : List Int) (x : Int) (B : Nat) (w : World) (hr : Row w B v l) (hl : l.length ≤ 1048576) :
    Calls Tryz.prog 61 #[v, .int .i64 x] w fun e w' => e = .returned (.bool (l.contains x)) ∧ w' = w := by
  obtain ⟨A, c, rfl, _, hk⟩ := hr
  rcases l with _ | ⟨y, r⟩
  · exact Tryz.slices_Contains_int_empty A c x w
  · obtain ⟨ad, rfl, hab, hc⟩ := hk 0 (by simp)
    obtain ⟨b, off, spot⟩ := ad
    have hspot : spot = none := by simpa [Addr.add] using World.cell?_spot hc
    subst hspot
    have h := Tryz.slices_Contains_int b off (y :: r).length c (y :: r) x w (Nat.le_refl _) (by omega) (fun j hj => by
      obtain ⟨ad', hA, _, hc'⟩ := hk j hj
      injection hA with hA
      subst hA
      rw [← hc']
      congr 1
      unfold Addr.add
      split
      · simp
      · rfl)
    rw [List.take_length] at h
    exact h
set_option maxHeartbeats 2000000 in
set_option maxRecDepth 100000 in
theorem shas_any (v : Value) (l : List Int) (x : Int) (w : World) (hr : Row w w.heap.size v l) (hl : l.length ≤ 1048576) :
    Calls Tryz.prog 40 #[v, .int .i64 x] w (Says w (hasB l x)) := by
  have Hr := Lib.hid hr
  clear hr
  rcases hm : mayB l with _ | _
  · have Hf := Lib.hid (has_no (x := x) hm)
    go_enter Tryz.func40, Tryz.ntmps40
    go_wp2_with fail
    refine (may_any v l w Hr.out (by omega)).mono ?_
    rintro e w1 ⟨rfl, hb1⟩
    rw [hm]
    go_wp2
    go_ret
    exact says_mk Hf.out rfl hb1
  · have Hf := Lib.hid (has_yes (x := x) hm)
    obtain ⟨bx, hbx⟩ : ∃ bx, bx = l.contains x := ⟨_, rfl⟩
    have Hc := Lib.hid (scontains_any v l x w.heap.size)
    rw [← hbx] at Hf Hc
    clear hbx
    go_enter Tryz.func40, Tryz.ntmps40
    go_wp2_with fail
    refine (may_any v l w Hr.out (by omega)).mono ?_
    rintro e w1 ⟨rfl, hb1⟩
    rw [hm]
    go_wp2_with fail
    refine (Hc.out w1 (Hr.out.below hb1) hl).mono ?_
    rintro e w2 ⟨rfl, rfl⟩
    go_wp2
    go_ret
    exact says_mk Hf.out rfl hb1

/-- append of one to a slice that has no room behind it: what was there stays, the new one is the call's own. -/
theorem run_append_full (w : World) (ty : TypeId) (A : Option Addr) (zs : List Int) (g : Nat) (y : Int) (B base : Nat) (c : Nat) (hr : Row w B (.slice A zs.length c) zs) (hc : w.cell? ⟨g, 0, none⟩ = some (.int .i64 y)) (hz : zs.length ≤ 4194304) (hb : base ≤ w.heap.size) :
    ∃ v' w', (Builtin.append_ #[26, 26] ty #[.slice A zs.length zs.length, .slice (some ⟨g, 0, none⟩) 1 1]).run Tryz.prog w = .ok v' w' ∧ w'.ownsRow base 3 1 v' (zs ++ [y]).length (ints (zs ++ [y])) ∧ w.grownBy w' none := by
  obtain ⟨i0, hi, hz0, hz1, hz2⟩ := info_parts info3
  obtain ⟨A', c', he, hcap, hk⟩ := hr
  injection he with e1 e2 e3
  subst e1 e3
  have hnews : ∀ (j : Nat) (u : Value), [Value.int .i64 y][j]? = some u → w.cell? ((⟨g, 0, none⟩ : Addr).add j) = some u := by
    intro j u hj
    match j, hj with
    | 0, hj =>
      simp at hj
      subst hj
      rw [add_zero]
      exact hc
  have grown : ∀ (old : Nat), old < zs.length + 1 →
      (w.drew.alloc (.cells ((ints zs).toArray ++ #[.int .i64 y] ++ Builtin.zeroCells (Value.int .i64 0).cells (grownCap w (zs.length + 1) old 3 - (zs.length + 1))) 3)).ownsRow base 3 1
        (.slice (some ⟨w.heap.size, 0, none⟩) (zs.length + 1) (grownCap w (zs.length + 1) old 3)) (zs.length + 1) (ints zs ++ [.int .i64 y]) := by
    intro old ho
    have hge := grownCap_ge w (zs.length + 1) old 3
    have hcm : grownCap w (zs.length + 1) old 3 ≤ maxLen := grownCap_le_maxLen w (zs.length + 1) old 3 (by unfold maxLen; omega)
    refine ⟨by simp [ints], .inr ⟨w.heap.size, _, _, rfl, hb, heap_alloc_new w.drew _, hge, hcm, ?_, ?_⟩⟩
    · simp only [Array.size_append, List.size_toArray, size_zeroCells, ints_length]
      have : (Value.int IntKind.i64 0).cells.size = 1 := rfl
      simp [this]
      omega
    · simp only [Array.toList_append, List.append_assoc]
      rw [← List.append_assoc]
      have : (zs.length + 1) * 1 = (ints zs ++ [Value.int .i64 y]).length := by simp [ints]
      rw [this]
      exact List.take_left
  have hgb : ∀ o : Obj, w.grownBy (w.drew.alloc o) none := fun o => ⟨rfl, rfl, rfl, by simp, fun k hk _ => Below.heap_alloc w.drew o k hk⟩
  rcases zs with _ | ⟨z, r⟩
  · cases A with
    | none =>
      have hrun := run_append_nil (P := Tryz.prog) w 26 ty 3 i0 (.int .i64 0) (by kernel_rfl) hi hz0 ⟨g, 0, none⟩ 1 1 [.int .i64 y] (by rw [hz1]; rfl) hnews (by omega) (by omega) (by rw [hz2]; omega)
      have hg := grown 0 (by omega)
      refine ⟨_, _, hrun, ?_, hgb _⟩
      simpa [ints] using hg
    | some b =>
      have hrun := run_append_grow (P := Tryz.prog) w 26 ty 3 i0 (.int .i64 0) (by kernel_rfl) hi hz0 b 0 0 [] (by simp) (by simp) ⟨g, 0, none⟩ 1 1 [.int .i64 y] (by rw [hz1]; rfl) hnews (by omega) (by omega) (by rw [hz2]; exact growslice_fits (by omega) (by omega))
      have hg := grown 0 (by omega)
      refine ⟨_, _, hrun, ?_, hgb _⟩
      simpa [ints] using hg
  · obtain ⟨b, rfl, _, _⟩ := hk 0 (by simp)
    have holds : ∀ (j : Nat) (u : Value), (ints (z :: r))[j]? = some u → w.cell? (b.add j) = some u := by
      intro j u hj
      have hjl : j < (z :: r).length := by
        have := (List.getElem?_eq_some_iff.1 hj).1
        simpa [ints] using this
      obtain ⟨b', hA', _, hc'⟩ := hk j hjl
      obtain rfl := Option.some.inj hA'
      rw [hc']
      rw [ints, List.getElem?_map, List.getElem?_eq_getElem hjl] at hj
      simp only [Option.map_some, Option.some.injEq] at hj
      rw [← hj, List.getD, List.getElem?_eq_getElem hjl]
      rfl
    have hrun := run_append_grow (P := Tryz.prog) w 26 ty 3 i0 (.int .i64 0) (by kernel_rfl) hi hz0 b (z :: r).length (z :: r).length (ints (z :: r)) (by rw [hz1]; simp [ints]) holds ⟨g, 0, none⟩ 1 1 [.int .i64 y] (by rw [hz1]; rfl) hnews (by omega) (by unfold maxLen at hcap; omega) (by rw [hz2]; exact growslice_fits (by omega) (by omega))
    have hg := grown (z :: r).length (by omega)
    refine ⟨_, _, hrun, ?_, hgb _⟩
    rw [show (z :: r ++ [y]).length = (z :: r).length + 1 from by simp, ints_append]
    exact hg
theorem wpList_append_full {w : World} {ops : Array Oper} {rest : List Oper} {o : Oper} {a : Act} {Q : Exit → Act → World → Prop} (hgd : o.guard = none) (s x : Operand)
    (ho : o.op = .call { callee := .builtin .append, args := #[s, x], argTypes := #[26, 26] })
    (A : Option Addr) (zs : List Int) (g : Nat) (y : Int) (B base c : Nat) (hs : a.eval s = .slice A zs.length zs.length) (hx : a.eval x = .slice (some ⟨g, 0, none⟩) 1 1) (hr : Row w B (.slice A zs.length c) zs) (hc : w.cell? ⟨g, 0, none⟩ = some (.int .i64 y)) (hz : zs.length ≤ 4194304) (hb : base ≤ w.heap.size)
    (h : ∀ v' w', w'.ownsRow base 3 1 v' (zs ++ [y]).length (ints (zs ++ [y])) → w.grownBy w' none → wpList Tryz.prog ops Q rest (a.put o.dst v') w') : wpList Tryz.prog ops Q (o :: rest) a w := by
  refine wpList_plain hgd fun K hK => ?_
  obtain ⟨v', w', hrun, h2, h3⟩ := run_append_full w o.type A zs g y B base c hr hc hz hb
  unfold Oper.wp execOp
  simp only [ho, resolve, invoke, builtin, Sem.run_bind, Sem.run_pure, Result.andThen_ok, List.map_toArray, List.map_cons, List.map_nil, hs, hx, hrun]
  exact hK _ _ (h v' w' h2 h3)
set_option maxHeartbeats 4000000 in
set_option maxRecDepth 100000 in
theorem grown_any (v : Value) (l : List Int) (x : Int) (w : World) (hr : Row w w.heap.size v l) (hl : l.length ≤ 1048576) :
    Calls Tryz.prog 41 #[v, .int .i64 x] w (Gives w (grownL l x)) := by
  obtain ⟨A, c, rfl, hcap, hk⟩ := id hr
  have hlc : ¬ (c : Int) < (l.length : Int) := by omega
  have hlI : (l.length : Int) ≤ 1048576 := by omega
  have hlc2 : (l.length : Int) ≤ (c : Int) := by omega
  have Hr := Lib.hid hr
  have hcl : (w.alloc (.cells #[.int .i64 x] 3)).cell? ⟨w.heap.size, 0, none⟩ = some (.int .i64 x) := (Blk.new w 3 #[.int .i64 x]).cell 0
  have Hcl := Lib.hid hcl
  clear hr hk hcap hcl
  go_enter Tryz.func41, Tryz.ntmps41
  go_wp2_with (at_builtin; refine wpList_append_full rfl _ _ rfl A l w.heap.size x _ w.heap.size c rfl rfl (Hr.out.upA _) Hcl.out (by omega) (by simp) ?_)
  intro v' w1 hown hgr
  have hb1 : Below w.heap.size w w1 := ((Below.refl _ w).alloc (Nat.le_refl _) _).grown hgr (by simp) (fun _ h => by cases h)
  have Hb1 := Lib.hid hb1
  have Hr1 := Lib.hid (Row.of_own hown (by simp))
  have hln : (l ++ [x]).length ≤ 2097152 := by simp; omega
  clear hown hgr hb1
  go_wp2_with fail
  refine (sort_any v' (l ++ [x]) _ Hr1.out hln).mono ?_
  rintro e w2 ⟨v2, rfl, hr2, hb2⟩
  have Hr2 := Lib.hid hr2
  have Hb2 := Lib.hid (below_next Hb1.out (Nat.le_refl _) hb2)
  clear hr2 hb2
  go_wp2
  go_ret
  exact ⟨_, rfl, Hr2.out, Hb2.out⟩

end Wp
end Go.Proofs.YtbjngggcpojefaaGreatDoor
