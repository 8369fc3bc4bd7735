/- Graphs in memory, and the program's components, walked. The program's parts and rank of a graph, walked. -/
import Derived.Test.YtgadbnbhgpehjaaGreatDoorZP
import Derived.Test.YtgadbnbhgpehjaaGreatDoorZA
import Derived.Deep.Slices
import Derived.Deep.OwnRows
import Derived.LoopN
import Derived.StillTailTactics
import Derived.Maps.OwnOps
import Derived.Maps.Views
set_option maxHeartbeats 8000000
set_option maxRecDepth 100000
open Go.Lib (hid)
namespace Go.Proofs.YtgadbnbhgpehjaaGreatDoor
open Go.RowKit
namespace Wp
def Edges (w : World) (B : Nat) (v : Value) (es : List (Int × Int)) : Prop :=
 ∃ A c, v = .slice A es.length c ∧ (es.length ≤ c ∧ c ≤ maxLen ∧ (A = none → c = 0)) ∧
  ∀ k, k < es.length → ∃ ad : Addr, A = some ad ∧ ad.block < B ∧ w.cell? (ad.add (k * 2)) = some (.int .i64 (es.getD k (0, 0)).1) ∧ w.cell? ⟨(ad.add (k * 2)).block, (ad.add (k * 2)).off + 1, none⟩ = some (.int .i64 (es.getD k (0, 0)).2)
open Go.RowKit
def okE (n : Int) (e : Int × Int) : Bool := decide (0 ≤ e.1 ∧ e.1 < n ∧ 0 ≤ e.2 ∧ e.2 < n)
def sizeB (n : Int) (es : List (Int × Int)) : Bool := decide (1 ≤ n ∧ n ≤ 64 ∧ es.length ≤ 4096)
def isG (n : Int) (es : List (Int × Int)) : Bool := sizeB n es && es.all (okE n)
theorem Vy9 {n : Int} {es : List (Int × Int)} (h : ¬ (1 ≤ n ∧ n ≤ 64 ∧ es.length ≤ 4096)) : isG n es = false := by
 unfold isG sizeB
 rw [decide_eq_false h]
 rfl
theorem Zy9 {es : List (Int × Int)} {k : Nat} (hk : k < es.length) : es.getD k (0, 0) = es[k] := by simp [List.getD, hk]
theorem isG_bad {n : Int} {es : List (Int × Int)} {k : Nat} (hk : k < es.length) (h : okE n (es.getD k (0, 0)) = false) : isG n es = false := by
 unfold isG
 rw [Bool.and_eq_false_iff]
 right
 rw [← Bool.not_eq_true, List.all_eq_true]
 intro h2
 have := h2 _ (List.getElem_mem hk)
 rw [Zy9 hk, this] at h
 cases h
def Za7 (n : Int) (es : List (Int × Int)) (k : Nat) : Prop := ∀ j, j < k → okE n (es.getD j (0, 0)) = true
theorem Zx0 {n : Int} {es : List (Int × Int)} {k : Nat} (h : Za7 n es k) (hk : okE n (es.getD k (0, 0)) = true) : Za7 n es (k + 1) := by
 intro j hj
 by_cases hjk : j = k
 ·rw [hjk]; exact hk
 ·exact h j (by omega)
theorem isG_end {n : Int} {es : List (Int × Int)} (h1 : 1 ≤ n ∧ n ≤ 64 ∧ es.length ≤ 4096) {k : Nat} (hk : k = es.length) (h : Za7 n es k) : isG n es = true := by
 unfold isG sizeB
 rw [decide_eq_true h1, Bool.true_and, List.all_eq_true]
 intro e he
 obtain ⟨j, hj, rfl⟩ := List.mem_iff_getElem.1 he
 have := h j (by omega)
 rwa [Zy9 hj] at this
theorem idx0 (x y : Int) (w : World) : (Instr.index 73 (.agg #[.int .i64 x, .int .i64 y]) (.int .i64 0)).run Tryz.prog w = .ok (.int .i64 x) w := by kernel_rfl
theorem idx1 (x y : Int) (w : World) : (Instr.index 73 (.agg #[.int .i64 x, .int .i64 y]) (.int .i64 1)).run Tryz.prog w = .ok (.int .i64 y) w := by kernel_rfl
theorem Yd1 (n : Int) (v : Value) (es : List (Int × Int)) (w : World) (hr : Edges w w.heap.size v es) (hn1 : 1 ≤ n) (hn2 : n ≤ 64) (hl2 : es.length ≤ 4096) :
  Calls Tryz.prog 156 #[.int .i64 n, v] w (Says w (isG n es)) := by
 obtain ⟨A, c, rfl, _, hcell⟩ := hr
 have Hcell := hid hcell
 clear hcell
 have Hbad := hid (fun k => @isG_bad n es k)
 have Hend := hid (fun k => @isG_end n es ⟨hn1, hn2, hl2⟩ k)
 have i0 := idx0
 have i1 := idx1
 have hl3 : (es.length : Int) ≤ 4096 := by omega
 go_enter Tryz.func156, Tryz.ntmps156
 go_wp2
 go_loopw [22] (fun vk wr => ∃ k : Nat, vk = .int .i64 k ∧ k ≤ es.length ∧ Below w.heap.size w wr ∧ Za7 n es k) (fun vk _ => es.length - (intOf vk).toNat)
 case atStart => exact ⟨0, rfl, Nat.zero_le _, Below.refl _ _, fun j hj => absurd hj (by omega)⟩
 case round =>
  obtain ⟨k, rfl, hk, hwr, hok⟩ := hrel
  have Hwr := hid hwr
  clear hwr
  have Hok := hid hok
  clear hok
  by_cases hlt : k < es.length
  ·obtain ⟨ad, hA, hab, h1, h2⟩ := Hcell.out k hlt
   subst hA
   have g1 : wr.cell? (ad.add (k * 2)) = some (.int .i64 (es.getD k (0, 0)).1) := ((Hwr.out).cell (by rw [Z2_]; exact hab)).trans h1
   have g2 : wr.cell? ⟨(ad.add (k * 2)).block, (ad.add (k * 2)).off + 1, none⟩ = some (.int .i64 (es.getD k (0, 0)).2) := ((Hwr.out).cell (by show (ad.add (k * 2)).block < _; rw [Z2_]; exact hab)).trans h2
   have Hno := hid (Hbad.out k hlt)
   have Hyes := hid (Zx0 (n := n) (es := es) (k := k) Hok.out)
   clear h1 h2 Hbad Hcell
   have He : Hid (okE n (es.getD k (0, 0)) = decide (0 ≤ (es.getD k (0, 0)).1 ∧ (es.getD k (0, 0)).1 < n ∧ 0 ≤ (es.getD k (0, 0)).2 ∧ (es.getD k (0, 0)).2 < n)) := rfl
   generalize (es.getD k (0, 0)).1 = x at *
   generalize (es.getD k (0, 0)).2 = y at *
   by_cases hx : 0 ≤ x ∧ x < n
   ·obtain ⟨hx1, hx2⟩ := hx
    by_cases hy : 0 ≤ y ∧ y < n
    ·obtain ⟨hy1, hy2⟩ := hy
     have Hx : Hid (okE n (es.getD k (0, 0)) = true) := by
      show okE n (es.getD k (0, 0)) = true
      rw [He.out]; simp [hx1, hx2, hy1, hy2]
     go_wp2
     refine wp_loop_rounds 3 ?_
     rw [rounds_succ]
     go_wp2
     rw [rounds_succ]
     go_wp2
     rw [rounds_succ]
     go_wp2
     go_roundw
     case rel => exact ⟨k + 1, by go_num, by omega, (Hwr.out).alloc (Hwr.out).size _, Hyes.out Hx.out⟩
     case measure => simp [intOf]; omega
    ·have Hx : Hid (okE n (es.getD k (0, 0)) = false) := by
      show okE n (es.getD k (0, 0)) = false
      rw [He.out, decide_eq_false_iff_not]
      rintro ⟨_, _, h3, h4⟩
      exact hy ⟨h3, h4⟩
     have hy' : y < 0 ∨ n ≤ y := by omega
     clear hy
     rcases hy' with hy' | hy'
     ·go_wp2
      refine wp_loop_rounds 3 ?_
      rw [rounds_succ]
      go_wp2
      rw [rounds_succ]
      go_wp2
      go_ret
      exact Y8_ (Hno.out Hx.out) rfl ((Hwr.out).alloc (Hwr.out).size _)
     ·have hy2 : 0 ≤ y := by omega
      go_wp2
      refine wp_loop_rounds 3 ?_
      rw [rounds_succ]
      go_wp2
      rw [rounds_succ]
      go_wp2
      go_ret
      exact Y8_ (Hno.out Hx.out) rfl ((Hwr.out).alloc (Hwr.out).size _)
   ·have Hx : Hid (okE n (es.getD k (0, 0)) = false) := by
     show okE n (es.getD k (0, 0)) = false
     rw [He.out, decide_eq_false_iff_not]
     rintro ⟨h3, h4, _⟩
     exact hx ⟨h3, h4⟩
    have hx' : x < 0 ∨ n ≤ x := by omega
    clear hx
    rcases hx' with hx' | hx'
    ·go_wp2
     refine wp_loop_rounds 3 ?_
     rw [rounds_succ]
     go_wp2
     go_ret
     exact Y8_ (Hno.out Hx.out) rfl ((Hwr.out).alloc (Hwr.out).size _)
    ·have hx2 : 0 ≤ x := by omega
     go_wp2
     refine wp_loop_rounds 3 ?_
     rw [rounds_succ]
     go_wp2
     go_ret
     exact Y8_ (Hno.out Hx.out) rfl ((Hwr.out).alloc (Hwr.out).size _)
  ·have hke : k = es.length := by omega
   have Hfin := hid (Hend.out k hke Hok.out)
   subst hke
   go_wp2
   go_ret
   exact Y8_ Hfin.out rfl Hwr.out
theorem Zt0 (n : Int) (v : Value) (es : List (Int × Int)) (w : World) (hr : Edges w w.heap.size v es) (hl : es.length ≤ 1048576) :
  Calls Tryz.prog 156 #[.int .i64 n, v] w (Says w (isG n es)) := by
 by_cases h : 1 ≤ n ∧ n ≤ 64 ∧ es.length ≤ 4096
 ·exact Yd1 n v es w hr h.1 h.2.1 h.2.2
 ·have Hno := hid (Vy9 h)
  have Hr := hid hr
  obtain ⟨A, c, rfl, _⟩ := hr
  have hl' : (es.length : Int) ≤ 1048576 := by omega
  have h3 : n < 1 ∨ (1 ≤ n ∧ 64 < n) ∨ (1 ≤ n ∧ n ≤ 64 ∧ 4096 < (es.length : Int)) := by omega
  clear h
  rcases h3 with h3 | ⟨h3, h4⟩ | ⟨h3, h4, h5⟩
  ·go_enter Tryz.func156, Tryz.ntmps156
   go_wp2
   go_ret
   exact Y8_ Hno.out rfl (Below.refl _ _)
  ·go_enter Tryz.func156, Tryz.ntmps156
   go_wp2
   go_ret
   exact Y8_ Hno.out rfl (Below.refl _ _)
  ·go_enter Tryz.func156, Tryz.ntmps156
   go_wp2
   go_ret
   exact Y8_ Hno.out rfl (Below.refl _ _)
theorem Yd2 (n : Int) (v : Value) (es : List (Int × Int)) (w : World) (hr : Edges w w.heap.size v es) (hl : es.length ≤ 1048576) {b : Bool} (hb : isG n es = b) :
  Calls Tryz.prog 156 #[.int .i64 n, v] w (Says w b) := by
 subst hb
 exact Zt0 n v es w hr hl
open Go.RowKit
def Labels (w : World) (g n : Nat) (f : Nat → Nat) : Prop := w.rowIs g 3 n fun i => .int .i64 (f i : Int)
theorem Labels.congr {w : World} {g n : Nat} {f f' : Nat → Nat} (h : Labels w g n f) (e : ∀ i, i < n → f i = f' i) : Labels w g n f' := World.rowIs.congr h fun i hi => by rw [e i hi]
theorem Labels.set {w : World} {g n : Nat} {f : Nat → Nat} (h : Labels w g n f) (i : Nat) (v : Nat) : Labels (w.setCell ⟨g, i, none⟩ (.int .i64 (v : Int))) g n (fun j => if j = i then v else f j) :=
 World.rowIs.congr (World.rowIs.set h i _) fun j _ => by
  by_cases hj : j = i
  ·simp only [hj, if_pos]
  ·simp only [hj, if_false]
def Xi0 (w : World) (g n : Nat) (f : Nat → Nat) (e : Ending) (w' : World) : Prop := e = .returned (.tuple #[]) ∧ Labels w' g n f ∧ w.grownBy w' (some g)
theorem Yd3 {f f' : Nat → Nat} {lo hi k : Nat} (h : f' = fun v => if f v = hi then lo else f v) :
  (f k = hi → (fun j => if j = k then lo else if j < k then f' j else f j) = fun j => if j < k + 1 then f' j else f j) ∧ (f k ≠ hi → (fun j => if j < k then f' j else f j) = fun j => if j < k + 1 then f' j else f j) := by
 subst h
 constructor
 ·intro hk
  funext j
  by_cases hj : j = k
  ·subst hj; simp [hk]
  ·by_cases hlt : j < k
   ·simp [hj, hlt, show j < k + 1 by omega]
   ·simp [hj, hlt, show ¬ j < k + 1 by omega]
 ·intro hk
  funext j
  by_cases hj : j = k
  ·subst hj; simp [hk]
  ·by_cases hlt : j < k
   ·simp [hlt, show j < k + 1 by omega]
   ·simp [hlt, show ¬ j < k + 1 by omega]
theorem Yj0 (g n : Nat) (f f' : Nat → Nat) (a b lo hi : Nat) (hf' : f' = fun v => if f v = hi then lo else f v) (hlh : lo < hi) (hab : (lo = a ∧ hi = b) ∨ (hi = a ∧ lo = b)) (w : World) (hf : Labels w g n f) (hn : n ≤ 64) :
  Calls Tryz.prog 157 #[.slice (some ⟨g, 0, none⟩) n n, .int .i64 a, .int .i64 b] w (Xi0 w g n f') := by
 have Hf := hid hf
 clear hf
 have Hs := hid (fun k => Yd3 (k := k) hf')
 clear hf'
 have hn' : (n : Int) ≤ 64 := by omega
 have hne1 : ((lo : Int) == (hi : Int)) = false := by rw [beq_eq_false_iff_ne]; omega
 have hne2 : ((hi : Int) == (lo : Int)) = false := by rw [beq_eq_false_iff_ne]; omega
 have hnl : ¬ hi < lo := by omega
 rcases hab with ⟨h1, h2⟩ | ⟨h1, h2⟩
 all_goals
  subst h1
  subst h2
  go_enter Tryz.func157, Tryz.ntmps157
  go_wp2
  go_loopw [21] (fun vk wr => ∃ k : Nat, vk = .int .i64 k ∧ k ≤ n ∧ Labels wr g n (fun j => if j < k then f' j else f j) ∧ w.grownBy wr (some g)) (fun vk _ => n - (intOf vk).toNat)
  case atStart => exact ⟨0, rfl, Nat.zero_le _, Hf.out.congr (fun i _ => by simp), World.grownBy.refl _ _⟩
  case round =>
   obtain ⟨k, rfl, hk, hlab, hgr⟩ := hrel
   have Hlab := hid hlab
   have Hgr := hid hgr
   clear hlab hgr
   by_cases hlt : k < n
   ·have hc : wr.cell? ⟨g, k, none⟩ = some (.int .i64 (f k : Int)) := by
     have := Hlab.out.cell hlt
     simpa using this
    have hfz : wr.frozen? ⟨g, k, none⟩ = false := Hlab.out.frozen k
    have Hs1 := hid (Hs.out k).1
    have Hs2 := hid (Hs.out k).2
    have Hset := hid (fun v => Hlab.out.set k v)
    generalize f k = x at hc Hs1 Hs2
    by_cases hx : x = hi
    ·subst hx
     go_wp2
     go_roundw
     case rel =>
      refine ⟨k + 1, by go_num, by omega, ?_, I4_ Hgr.out (.inl rfl) _⟩
      rw [← Hs1.out rfl]
      exact Hset.out _
     case measure => simp [intOf]; omega
    ·have hxf : ((x : Int) == (hi : Int)) = false := by rw [beq_eq_false_iff_ne]; omega
     go_wp2
     go_roundw
     case rel => exact ⟨k + 1, by go_num, by omega, by rw [← Hs2.out hx]; exact Hlab.out, Hgr.out⟩
     case measure => simp [intOf]; omega
   ·have hke : k = n := by omega
    subst hke
    go_wp2
    go_end0
    exact ⟨rfl, Hlab.out.congr (fun i hi => by simp [hi]), Hgr.out⟩
theorem Yn5 (g n : Nat) (f : Nat → Nat) (a b : Nat) (w : World) (hf : Labels w g n f) (hn : n ≤ 64) :
  Calls Tryz.prog 157 #[.slice (some ⟨g, 0, none⟩) n n, .int .i64 a, .int .i64 b] w (Xi0 w g n (L8_ f a b)) := by
 rcases Nat.lt_trichotomy a b with hab | hab | hab
 ·refine Yj0 g n f _ a b a b ?_ hab (.inl ⟨rfl, rfl⟩) w hf hn
  funext v
  unfold L8_
  rw [Nat.max_eq_right (by omega), Nat.min_eq_left (by omega)]
 ·subst hab
  rw [Za4]
  have Hf := hid hf
  clear hf
  have hn' : (n : Int) ≤ 64 := by omega
  go_enter Tryz.func157, Tryz.ntmps157
  go_wp2
  refine bodyPost_ret (results_none rfl _ _ _) rfl ?_
  exact ⟨rfl, Hf.out, World.grownBy.refl _ _⟩
 ·refine Yj0 g n f _ a b b a ?_ hab (.inr ⟨rfl, rfl⟩) w hf hn
  funext v
  unfold L8_
  rw [Nat.max_eq_left (by omega), Nat.min_eq_right (by omega)]
open Go.RowKit
def castE (ns : List (Nat × Nat)) : List (Int × Int) := ns.map fun e => ((e.1 : Int), (e.2 : Int))
theorem X1_ (ns : List (Nat × Nat)) : (castE ns).length = ns.length := by simp [castE]
theorem G2_ (ns : List (Nat × Nat)) (k : Nat) : (castE ns).getD k (0, 0) = (((ns.getD k (0, 0)).1 : Int), ((ns.getD k (0, 0)).2 : Int)) := by
 unfold castE
 rw [List.getD_eq_getElem?_getD, List.getD_eq_getElem?_getD, List.getElem?_map]
 rcases ns[k]? with _ | e <;> rfl
theorem Xi1 {m : Nat} {ns : List (Nat × Nat)} (h1 : 1 ≤ m) (h2 : m ≤ 64) (h3 : ns.length ≤ 4096) (h4 : Lies m ns) : isG m (castE ns) = true := by
 unfold isG sizeB
 rw [Bool.and_eq_true, decide_eq_true_iff, List.all_eq_true]
 refine ⟨⟨by omega, by omega, by rw [X1_]; exact h3⟩, fun e he => ?_⟩
 obtain ⟨x, hx, rfl⟩ := List.mem_map.1 he
 have := h4 x hx
 simp only [okE, decide_eq_true_iff]
 omega
def Zx1 (w : World) (m : Nat) (f : Nat → Nat) (e : Ending) (w' : World) : Prop :=
 ∃ g, e = .returned (.tuple #[.slice (some ⟨g, 0, none⟩) m m, .int .i64 0]) ∧ Labels w' g m f ∧ w.heap.size ≤ g ∧ Below w.heap.size w w'
def C3_ (ns : List (Nat × Nat)) (k : Nat) : Nat → Nat := compF (ns.take k)
theorem Ze9 {ns : List (Nat × Nat)} {k : Nat} (hk : k < ns.length) : C3_ ns (k + 1) = A7_ (C3_ ns k) (ns.getD k (0, 0)) := by
 unfold C3_
 rw [List.take_succ_eq_append_getElem hk, Zy0]
 simp [List.getD, hk]
theorem Zk6 {m : Nat} {ns : List (Nat × Nat)} (h : Lies m ns) {k : Nat} (hk : k < ns.length) : (ns.getD k (0, 0)).1 < m ∧ (ns.getD k (0, 0)).2 < m := by
 have := h ns[k] (List.getElem_mem hk)
 simpa [List.getD, hk] using this
theorem Yd4 (m : Nat) (v : Value) (ns : List (Nat × Nat)) (w : World) (hr : Edges w w.heap.size v (castE ns)) (h1 : 1 ≤ m) (h2 : m ≤ 64) (h3 : ns.length ≤ 4096) (h4 : Lies m ns) :
  Calls Tryz.prog 133 #[.int .i64 m, v] w (Zx1 w m (compF ns)) := by
 have Hr := hid hr
 have Hg := hid (Xi1 h1 h2 h3 h4)
 have Hlies := hid h4
 have hl : (castE ns).length ≤ 1048576 := by rw [X1_]; omega
 obtain ⟨A, c, hv, _, hcell⟩ := hr
 rw [X1_] at hv hcell
 subst hv
 have Hcell := hid hcell
 clear hcell h4
 have h2' : (m : Int) ≤ 64 := by omega
 have h1' : 1 ≤ (m : Int) := by omega
 have h3' : (ns.length : Int) ≤ 4096 := by omega
 have hmk := fun W => run_make_row' 26 3 (.int .i64 0) 8 Tryz.underlying26 info3 rfl .i64 .i64 m (by omega) (by omega) W
 go_enter Tryz.func133, Tryz.ntmps133
 go_wp2_with fail
 refine (Yd2 m _ (castE ns) w Hr.out hl Hg.out).mono ?_
 rintro e w1 ⟨rfl, hb1⟩
 obtain ⟨g, hg⟩ : ∃ g, g = w1.heap.size := ⟨_, rfl⟩
 have Hgs : Hid (w.heap.size ≤ g) := by
  show _ ≤ _
  rw [hg]; exact hb1.size
 have Hlab0 : Hid (Labels (w1.alloc (.cells (madeCells #[.int .i64 0] m) 3)) g m (fun j => if j < 0 then j else 0)) := by
  show Labels _ _ _ _
  rw [hg]
  exact World.rowIs.congr (World.rowIs_made w1 (.int .i64 0) m 3) fun i _ => by simp
 have Hb1 : Hid (Below w.heap.size w (w1.alloc (.cells (madeCells #[.int .i64 0] m) 3))) := hb1.alloc hb1.size _
 clear hb1
 go_wp2
 rw [← hg]
 clear hg hmk
 go_loopw [18] (fun vk wr => ∃ k : Nat, vk = .int .i64 k ∧ k ≤ m ∧ Labels wr g m (fun j => if j < k then j else 0) ∧ Below w.heap.size w wr) (fun vk _ => m - (intOf vk).toNat)
 case atStart => exact ⟨0, rfl, Nat.zero_le _, Hlab0.out, Hb1.out⟩
 case round =>
  obtain ⟨k, rfl, hk, hlab, hbr⟩ := hrel
  have Hlab := hid hlab
  have Hbr := hid hbr
  clear hlab hbr
  by_cases hlt : k < m
  ·have hc : wr.cell? ⟨g, k, none⟩ = some (.int .i64 0) := by
    have := Hlab.out.cell hlt
    simpa using this
   have hfz : wr.frozen? ⟨g, k, none⟩ = false := Hlab.out.frozen k
   go_wp2
   go_roundw
   case rel =>
    refine ⟨k + 1, by go_num, by omega, (Hlab.out.set k k).congr fun i hi => ?_, Hbr.out.setCell Hgs.out _⟩
    by_cases hik : i = k
    ·simp [hik]
    ·by_cases hlt' : i < k
     ·simp [hik, hlt', show i < k + 1 by omega]
     ·simp [hik, hlt', show ¬ i < k + 1 by omega]
   case measure => simp [intOf]; omega
  ·have hke : k = m := by omega
   have Hlab2 := hid (Hlab.out.congr (f' := C3_ ns 0) (fun i hi => by simp [C3_, compF, show i < k by omega]))
   clear Hlab
   go_wp2
   go_loopw [28] (fun vk wr => ∃ k : Nat, vk = .int .i64 k ∧ k ≤ ns.length ∧ Labels wr g m (C3_ ns k) ∧ Below w.heap.size w wr) (fun vk _ => ns.length - (intOf vk).toNat)
   case atStart => exact ⟨0, rfl, Nat.zero_le _, Hlab2.out, Hbr.out⟩
   case round =>
    clear Hlab2 Hbr hke hlt hk
    obtain ⟨k, rfl, hk, hlab, hbr⟩ := hrel
    have Hlab := hid hlab
    have Hbr := hid hbr
    clear hlab hbr
    by_cases hlt : k < ns.length
    ·obtain ⟨ad, hA, hab, q1, q2⟩ := Hcell.out k hlt
     subst hA
     rw [G2_] at q1 q2
     simp only at q1 q2
     have g1 := (Hbr.out.cell (p := ad.add (k * 2)) (by rw [Z2_]; exact hab)).trans q1
     have g2 := (Hbr.out.cell (p := ⟨(ad.add (k * 2)).block, (ad.add (k * 2)).off + 1, none⟩) (by show (ad.add (k * 2)).block < _; rw [Z2_]; exact hab)).trans q2
     clear q1 q2 Hcell
     have hlie := Zk6 Hlies.out hlt
     have Hstep := hid (Ze9 hlt)
     obtain ⟨⟨x, y⟩, hxy⟩ : ∃ e, e = ns.getD k (0, 0) := ⟨_, rfl⟩
     rw [← hxy] at g1 g2 hlie Hstep
     clear hxy
     simp only at g1 g2 hlie
     obtain ⟨hx, hy⟩ := hlie
     have hx' : (x : Int) < m := by omega
     have hy' : (y : Int) < m := by omega
     have Hnew := Blk.new wr 73 #[.int .i64 (x : Int), .int .i64 (y : Int)]
     have d0 := Hnew.cell 0
     have d1 := Hnew.cell 1
     simp only [List.getElem?_toArray, List.getElem?_cons_zero, List.getElem?_cons_succ] at d0 d1
     have Hlw := hid (World.rowIs.alloc Hlab.out (.cells #[.int .i64 (x : Int), .int .i64 (y : Int)] 73))
     have c1 := Hlw.out.cell hx
     have c2 := Hlw.out.cell hy
     have Hbw := hid (Hbr.out.alloc Hbr.out.size (.cells #[.int .i64 (x : Int), .int .i64 (y : Int)] 73))
     clear Hnew
     go_wp2
     generalize wr.alloc (.cells #[.int .i64 (x : Int), .int .i64 (y : Int)] 73) = W at *
     generalize wr.heap.size = eb at *
     go_still_tail 11, (by kernel_rfl)
     change wpList _ _ _ _ _ W.drew
     go_wp2_with fail
     refine (Yn5 g m (C3_ ns k) (C3_ ns k x) (C3_ ns k y) W.drew Hlw.out h2).mono ?_
     rintro e w3 ⟨rfl, hlab3, hgr3⟩
     have Hlab3 := hid hlab3
     have Hgr3 := hid hgr3
     clear hlab3 hgr3
     go_wp2
     go_roundw
     case rel =>
      refine ⟨k + 1, by go_num, by omega, by rw [Hstep.out]; exact Hlab3.out, Hbw.out.trans ?_⟩
      exact ((Below.refl w.heap.size W).drew).grown Hgr3.out Hbw.out.size (fun i hi => by injection hi with hi; rw [← hi]; exact Hgs.out)
     case measure => simp [intOf]; omega
    ·have hke : k = ns.length := by omega
     have Hfin := hid (Hlab.out.congr (f' := compF ns) (fun i _ => by unfold C3_; rw [hke, List.take_length]))
     go_wp2
     go_ret2
     exact ⟨g, rfl, Hfin.out, Hgs.out, Hbr.out⟩
open Go.RowKit Go.Maps
def castL (l : List Nat) : List Int := l.map fun v : Nat => (v : Int)
def castP (pp : List (List Nat)) : List (List Int) := pp.map castL
theorem A3_ (pp : List (List Nat)) : (castP pp).length = pp.length := by simp [castP]
theorem Xj9 {pp : List (List Nat)} {i : Nat} {p : List Nat} (h : pp[i]? = some p) : (castP pp)[i]? = some (castL p) := by simp [castP, h]
theorem Yn6 (pp : List (List Nat)) (i : Nat) (p : List Nat) : castP (pp.set i p) = (castP pp).set i (castL p) := by simp [castP, List.map_set]
theorem T7_ (l : List Nat) : (castL l).length = l.length := by simp [castL]
theorem Za8 (l : List Nat) (k : Nat) : castL (l ++ [k]) = castL l ++ [(k : Int)] := by simp [castL]
def T8_ (D : DataW Unit) (f : Nat → Nat) (k : Nat) : Prop := ∀ r, r < k → f r = r → D.atKey (.int .i64 (r : Int)) (.lit (.int .i64 0)) = .lit (.int .i64 (cnt (rootB f) r : Int))
theorem law3 : Keyed Tryz.prog 3 := int_keyed Tryz.underlying3
theorem zero3 (w : World) : (zeroValue 3).run Tryz.prog w = .ok (.int .i64 0) w := by kernel_rfl
theorem Yj1 : (Tryz.prog.info? 26).map (fun i => (i.zero, i.size, i.bytes)) = some (some (.slice none 0 0), 1, 24) := by kernel_rfl
theorem Zt1 {D : DataW Unit} {f : Nat → Nat} {k : Nat} (h : T8_ D f k) (hk : f k ≠ k) : T8_ D f (k + 1) := by
 intro r hr hf
 by_cases hrk : r = k
 ·subst hrk; exact absurd hf hk
 ·exact h r (by omega) hf
theorem isMap_of {w : World} {b n : Nat} {D : DataW Unit} (h : w.ownsMap Tryz.prog 3 (plainElem Tryz.prog 3) b n D) : IsMap D := by
 obtain ⟨_, _, _, _, _, hD⟩ := h
 exact ⟨_, hD⟩
theorem Yd5 {D : DataW Unit} {f : Nat → Nat} {k : Nat} (h : T8_ D f k) (hD : IsMap D) : T8_ (D.put (.int .i64 (k : Int)) (.lit (.int .i64 (cnt (rootB f) k : Int)))) f (k + 1) := by
 intro r hr hf
 by_cases hrk : r = k
 ·subst hrk
  exact atKey_put_same hD (show WideAt.IsKeyLit (.int .i64 (r : Int)) from trivial) _ _
 ·rw [atKey_put_other (by intro e; injection e; omega)]
  exact h r (by omega) hf
def Zk7 (w : World) (pp : List (List Int)) (e : Ending) (w' : World) : Prop :=
 ∃ v, e = .returned (.tuple #[v, .int .i64 0]) ∧ Rows2 w' w'.heap.size v pp ∧ Below w.heap.size w w'
theorem Yd6 (m : Nat) (v : Value) (ns : List (Nat × Nat)) (w : World) (hr : Edges w w.heap.size v (castE ns)) (h1 : 1 ≤ m) (h2 : m ≤ 64) (h3 : ns.length ≤ 4096) (h4 : Lies m ns) :
  Calls Tryz.prog 109 #[.int .i64 m, v] w (Zk7 w (castP (A8_ m (compF ns)))) := by
 have Hr := hid hr
 have Hc := hid (Yd4 m v ns w hr h1 h2 h3 h4)
 have h2' : (m : Int) ≤ 64 := by omega
 have h1' : 1 ≤ (m : Int) := by omega
 have Hle := hid (Ym3 ns)
 have Hid' := hid (Zi9 ns)
 obtain ⟨A, c, rfl, _⟩ := hr
 clear h4 h3
 have hmm := @run_makeMap Tryz.prog
 go_enter Tryz.func109, Tryz.ntmps109
 go_wp2_with fail
 refine Hc.out.mono ?_
 rintro e w1 ⟨g, rfl, hlab, hg, hb1⟩
 generalize compF ns = f at *
 have Hlab := hid hlab
 clear Hc hlab Hr
 have hgl : g < w1.heap.size := World.rowIs.lt Hlab.out
 obtain ⟨mb, hmb⟩ : ∃ mb, mb = w1.heap.size := ⟨_, rfl⟩
 have Hmap0 : Hid ((w1.alloc (.map #[] 0)).ownsMap Tryz.prog 3 (plainElem (H := Unit) Tryz.prog 3) mb 0 (.map [])) := by
  show World.ownsMap _ _ _ _ _ _ _
  rw [hmb]
  exact World.ownsMap_made w1 Tryz.prog 3 _
 have Hbm : Hid (Below mb w1 (w1.alloc (.map #[] 0))) := by
  show Below _ _ _
  rw [hmb]
  exact (Below.refl _ w1).alloc (Nat.le_refl _) _
 have Hsz : Hid (mb + 1 ≤ (w1.alloc (.map #[] 0)).heap.size) := by
  show _ ≤ _
  rw [hmb]; simp
 have Hmbw : Hid (w.heap.size ≤ mb) := by
  show _ ≤ _
  rw [hmb]; exact hb1.size
 have hgm : g < mb := by rw [hmb]; exact hgl
 have Hb1 := hid hb1
 clear hb1 hgl
 go_wp2
 rw [← hmb]
 have Hmb1 := hid hmb
 clear hmb hmm
 go_loopw [8, 25] (fun vp vk wr => ∃ (k : Nat) (vs : List Value) (D : DataW Unit), vk = .int .i64 k ∧ k ≤ m ∧ wr.ownsRow (mb + 1) 26 1 vp vs.length vs ∧ Fam wr (mb + 1) vs (castP (A8_ k f)) ∧
   wr.ownsMap Tryz.prog 3 (plainElem Tryz.prog 3) mb k D ∧ T8_ D f k ∧ Below mb w1 wr ∧ mb + 1 ≤ wr.heap.size) (fun _ vk _ => m - (intOf vk).toNat)
 case atStart => exact ⟨0, [], .map [], rfl, Nat.zero_le _, World.ownsRow_nil _ _ _ _, Zp1 _ _, Hmap0.out, fun r hr => absurd hr (by omega), Hbm.out, Hsz.out⟩
 case round =>
  obtain ⟨k, vs, D, rfl, hk, hown, hfam, hmap, hpl, hbr, hsr⟩ := hrel
  clear Hmap0 Hbm Hsz
  obtain ⟨vA, vc, rfl⟩ := J1_ hown
  have Hown := hid hown
  have Hfam := hid hfam
  have Hmap := hid hmap
  have Hpl := hid hpl
  have Hbr := hid hbr
  clear hown hfam hmap hpl hbr
  by_cases hlt : k < m
  ·have hc : wr.cell? ⟨g, k, none⟩ = some (.int .i64 (f k : Int)) := (Hbr.out.cell (p := ⟨g, k, none⟩) (hgm)).trans (Hlab.out.cell hlt)
   have Hvl : Hid (vs.length = cnt (rootB f) k) := by
    show _ = _
    rw [Hfam.out.1, A3_, Q0_]
   have hvl : vs.length ≤ 64 := by
    rw [Hvl.out]
    have := A1_ (rootB f) k
    omega
   have hvl' : (vs.length : Int) ≤ 64 := by omega
   obtain ⟨x, hxe⟩ : ∃ x, x = f k := ⟨_, rfl⟩
   rw [← hxe] at hc
   have hxk : x ≤ k := by rw [hxe]; exact Hle.out k
   have Hfx : Hid (f x = x) := by
    show f x = x
    rw [hxe]; exact Hid'.out k
   have Hwfx := hid (WalkArith.wf_i64 (n := (x : Int)) (by omega))
   have Hwfv := hid (WalkArith.wf_i64 (n := (vs.length : Int)) (by omega))
   have Hxe := hid hxe
   clear hxe
   by_cases hroot : x = k
   case' pos =>
    have Hroot := hid hroot
    have hkk : ((k : Int) == (x : Int)) = true := by simp [hroot]
    clear hroot
    go_wp2_with (at_mapUpdate; refine wpList_mapUpdate_own _ rfl _ _ _ 126 rfl 3 3 law3 Tryz.underlying126 _ mb k _ rfl Hmap.out (by unfold maxLen; omega) _ _ _ rfl rfl (keyOf_int_mk Tryz.underlying3 Hwfx.out) _ [] (plainElem_int Tryz.underlying3 Hwfv.out) ?_)
    intro w2 hmap2 hgr2
    have Hmap2 := hid hmap2
    have Hgr2 := hid hgr2
    clear hmap2 hgr2
    have hs2 : mb + 1 ≤ w2.heap.size := Nat.le_trans hsr Hgr2.out.size
    have hvb : ∀ q, (Value.slice vA vs.length vc).ownBlock = some q → mb + 1 ≤ q := fun q hq => (Hown.out.lt q hq).1
    have Hvb := hid hvb
    clear hvb
    have Hown2 := hid (Hown.out.kept Hgr2.out (by
     rcases hb : (Value.slice vA vs.length vc).ownBlock with _ | q
     ·exact .inl rfl
     ·right
      intro he
      injection he with he
      have := Hvb.out q hb
      omega))
    have Hfam2 := hid (Hfam.out.apart Hgr2.out (by omega))
    have Hbr2 := hid (Hbr.out.grown Hgr2.out (by omega) (fun i hi => by injection hi with hi; omega))
    have hcell := (Blk.new w2 26 #[.slice none 0 0]).cell 0
    simp only [List.getElem?_toArray, List.getElem?_cons_zero] at hcell
    have Hcell := hid hcell
    clear hcell
    go_wp2_with (at_builtin; refine V5_ rfl _ _ 22 26 (.slice none 0 0) 24 rfl Tryz.underlying22 Yj1 rfl (mb + 1) _ (.slice none 0 0) vs rfl (Hown2.out.alloc _) w2.heap.size rfl Hcell.out rfl (by omega) (by omega) (by simp; omega) ?_)
    intro vp3 w3 hown3 hgr3 _
    obtain ⟨D', hD⟩ : ∃ D', D' = D.put (.int .i64 (x : Int)) (.lit (.int .i64 (vs.length : Int))) := ⟨_, rfl⟩
    have HplT : Hid (T8_ D' f (k + 1)) := by
     show T8_ _ _ _
     rw [hD, Hroot.out, Hvl.out]
     exact Yd5 Hpl.out (isMap_of Hmap.out)
    have HmapT : Hid (w3.ownsMap Tryz.prog 3 (plainElem Tryz.prog 3) mb (k + 1) D') := by
     show World.ownsMap _ _ _ _ _ _ _
     rw [hD]
     refine (Hmap2.out.alloc _).kept hgr3 ?_
     intro he
     have := Hvb.out mb he.symm
     omega
    have HbrT := hid ((Hbr2.out.alloc (by omega) (.cells #[.slice none 0 0] 26)).grown hgr3 (by simp; omega) (fun i hi => by have := Hvb.out i hi; omega))
    have hsT : mb + 1 ≤ w3.heap.size := Nat.le_trans (by simp; omega) hgr3.size
    obtain ⟨vt, hvt⟩ : ∃ vt, vt = vs ++ [.slice none 0 0] := ⟨_, rfl⟩
    have HownT : Hid (w3.ownsRow (mb + 1) 26 1 vp3 vt.length vt) := by
     show World.ownsRow _ _ _ _ _ _ _
     rw [hvt, List.length_append]
     exact hown3
    have HfamT : Hid (Fam w3 (mb + 1) vt (castP (Y9_ k f))) := by
     show Fam _ _ _ _
     have hr : castP (Y9_ k f) = castP (A8_ k f) ++ [[]] := by
      unfold Y9_
      rw [← Hxe.out, if_pos Hroot.out]
      simp [castP, castL]
     rw [hvt, hr]
     refine Fam.more ?_
     refine (Hfam2.out.new (World.grownBy_alloc _ (.cells #[.slice none 0 0] 26) none)).kept hgr3 ?_
     intro v hv
     obtain ⟨i, hi, rfl⟩ := List.mem_iff_getElem.1 hv
     have hip : i < (castP (A8_ k f)).length := by rw [← Hfam2.out.1]; exact hi
     exact T2_ (Hfam2.out.2.1 i _ _ (List.getElem?_eq_getElem hi) (List.getElem?_eq_getElem hip)) Hown2.out (by decide)
    have hvt0 : 0 < vt.length := by rw [hvt, List.length_append]; simp
    obtain ⟨go, cap, rfl, hgo⟩ := G9_ HownT.out hvt0
    clear hD hvt hvt0 hown3 hgr3 Hcell Hbr2 Hfam2 Hown2 Hvb Hmap2 Hgr2 hs2
   case' neg =>
    have Hroot := hid hroot
    have hkk : ((k : Int) == (x : Int)) = false := by rw [beq_eq_false_iff_ne]; omega
    clear hroot
    obtain ⟨w3, rfl⟩ : ∃ w3, w3 = wr := ⟨_, rfl⟩
    obtain ⟨vt, rfl⟩ : ∃ vt, vt = vs := ⟨_, rfl⟩
    obtain ⟨D', rfl⟩ : ∃ D', D' = D := ⟨_, rfl⟩
    have HplT : Hid (T8_ D' f (k + 1)) := Zt1 Hpl.out (by rw [← Hxe.out]; exact Hroot.out)
    have HmapT := hid (Hmap.out.mono (Nat.le_succ k))
    have HbrT := Hbr
    have hsT := hsr
    have HownT := Hown
    have HfamT : Hid (Fam w3 (mb + 1) vt (castP (Y9_ k f))) := by
     show Fam _ _ _ _
     unfold Y9_
     rw [← Hxe.out, if_neg Hroot.out]
     exact Hfam.out
    have hvt0 : 0 < vt.length := by
     rw [HfamT.out.1, A3_]
     exact Nat.lt_of_le_of_lt (Nat.zero_le _) (Zs0 (k := k) Hle.out Hid'.out)
    obtain ⟨go, cap, hv, hgo⟩ := G9_ HownT.out hvt0
    injection hv with hv1 _ hv2
    subst hv1
    obtain rfl : cap = vc := hv2.symm
    clear hvt0
   all_goals
    go_wp2_with (at_lookup; refine wpList_lookup_own_int _ rfl _ _ 126 rfl 3 3 .i64 law3 Tryz.underlying126 Tryz.underlying3 (zero3 _) mb (k + 1) D' rfl HmapT.out _ _ rfl (keyOf_int_mk Tryz.underlying3 Hwfx.out) ?_)
    intro c hat _
    rw [HplT.out x (by omega) Hfx.out] at hat
    obtain rfl : c = (cnt (rootB f) x : Int) := by injection hat with hat; injection hat with _ hat; exact hat.symm
    clear hat
    have hqr : cnt (rootB f) x < (Y9_ k f).length := by rw [Hxe.out]; exact Zs0 Hle.out Hid'.out
    have hat : (Y9_ k f)[cnt (rootB f) x]? = some (Y7_ k f x) := by rw [Hxe.out]; exact Xo4 Hle.out Hid'.out
    have Hnext : Hid (castP (A8_ (k + 1) f) = (castP (Y9_ k f)).set (cnt (rootB f) x) (castL (Y7_ k f x) ++ [(k : Int)])) := by
     show _ = _
     rw [Yc2 Hle.out Hid'.out, Yn6, Za8, ← Hxe.out]
    generalize cnt (rootB f) x = q at *
    have hvtl : vt.length = (Y9_ k f).length := by rw [HfamT.out.1, A3_]
    have hql : q < vt.length := by rw [hvtl]; exact hqr
    have hvt64 : vt.length ≤ 65 := by
     rw [hvtl, Zy2]
     have := A1_ (rootB f) (k + 1)
     omega
    have hu : vt[q]? = some vt[q] := List.getElem?_eq_getElem hql
    have hin := HfamT.out.2.1 q _ _ hu (Xj9 hat)
    have hcu := HownT.out.cells (g := go) rfl q _ hu
    have hcu' : w3.cell? ⟨go, q, none⟩ = some vt[q] := by
     rw [← hcu]
     unfold Addr.add
     split <;> simp_all
    clear hcu
    have hpl : (castL (Y7_ k f x)).length ≤ 64 := by
     rw [T7_]
     have := O2_ k f x
     omega
    generalize vt[q] = u at *
    have hql' : (q : Int) < (vt.length : Int) := by omega
    obtain ⟨xs, hxs⟩ : ∃ xs, xs = ints (castL (Y7_ k f x)) := ⟨_, rfl⟩
    have hxl : xs.length = (castL (Y7_ k f x)).length := by rw [hxs, A0_]
    rw [← hxs, ← hxl] at hin
    rw [← hxl] at hpl
    obtain ⟨uA, uc, rfl⟩ := J1_ hin
    have Hin := hid hin
    have Hu := hid hu
    have Hxs := hid hxs
    have Hxl := hid hxl
    clear hin hu hat hqr hvtl Hvl hxs hxl
    have hcell := (Blk.new w3 3 #[.int .i64 (k : Int)]).cell 0
    simp only [List.getElem?_toArray, List.getElem?_cons_zero] at hcell
    have Hcell := hid hcell
    clear hcell
    have hsz3 : (w3.alloc (.cells #[.int .i64 (k : Int)] 3)).heap.size = w3.heap.size + 1 := by simp
    have Hsz3 := hid hsz3
    have hub : ∀ i, (Value.slice uA xs.length uc).ownBlock = some i → mb + 1 ≤ i := fun i hi => (Hin.out.lt i hi).1
    have Hub := hid hub
    clear hsz3 hub
    go_wp2_with (at_builtin; refine V5_ rfl _ _ 26 3 (.int .i64 0) 8 rfl Tryz.underlying26 info3 rfl (mb + 1) _ (.int .i64 (k : Int)) xs rfl (Hin.out.alloc _) w3.heap.size rfl Hcell.out rfl (by omega) (by omega) (by rw [Hsz3.out]; omega) ?_)
    intro u5 w5 hin5 hgr5 hloc5
    have Hgr5' := hid ((World.grownBy_alloc w3 (.cells #[.int .i64 (k : Int)] 3) (Value.slice uA xs.length uc).ownBlock).trans hgr5)
    have hne5 : (Value.slice (some ⟨go, 0, none⟩) vt.length cap).ownBlock = none ∨ (Value.slice (some ⟨go, 0, none⟩) vt.length cap).ownBlock ≠ (Value.slice uA xs.length uc).ownBlock := T2_ HownT.out Hin.out (by decide)
    have Hown5 := hid (HownT.out.kept Hgr5'.out hne5)
    have hcg : w5.cell? ⟨go, q, none⟩ = some (.slice uA xs.length uc) := by rw [Hown5.out.cellAt q (by omega)]; exact Hu.out
    have hfg : w5.frozen? ⟨go, q, none⟩ = false := Hown5.out.frozenAt q
    have Hin5 := hid hin5
    have Hgr5 := hid hgr5
    have Hloc5 := hid hloc5
    obtain ⟨u5A, u5c, rfl⟩ := J1_ hin5
    clear hin5 hgr5 hloc5 hne5 hcu'
    have hsu : (w3.alloc (.cells #[.int .i64 (k : Int)] 3)).heap.size ≤ w5.heap.size := Hgr5.out.size
    have HfamE : Hid (Fam (w5.setCell ⟨go, q, none⟩ (.slice u5A (xs.length + 1) u5c)) (mb + 1) (vt.set q (.slice u5A (xs.length + 1) u5c)) (castP (A8_ (k + 1) f))) := by
     show Fam _ _ _ _
     rw [Hnext.out]
     have hq : ints (castL (Y7_ k f x) ++ [(k : Int)]) = xs ++ [.int .i64 (k : Int)] := by rw [V6_, Hxs.out]; rfl
     have h5 : Fam w5 (mb + 1) (vt.set q (.slice u5A (xs.length + 1) u5c)) ((castP (Y9_ k f)).set q (castL (Y7_ k f x) ++ [(k : Int)])) := by
      refine (HfamT.out.new (World.grownBy_alloc _ (.cells #[.int .i64 (k : Int)] 3) none)).grow Hu.out Hgr5.out ?_ (by rw [Hsz3.out]; exact Hloc5.out)
      rw [hq, List.length_append, ← Hxl.out]
      exact Hin5.out
     refine h5.kept (row := some go) (Hown5.out.stored q _).2 ?_
     intro v hv
     obtain ⟨i, hi, rfl⟩ := List.mem_iff_getElem.1 hv
     have hip : i < ((castP (Y9_ k f)).set q (castL (Y7_ k f x) ++ [(k : Int)])).length := by rw [← h5.1]; exact hi
     exact T2_ (h5.2.1 i _ _ (List.getElem?_eq_getElem hi) (List.getElem?_eq_getElem hip)) Hown5.out (by decide)
    have HownE : Hid ((w5.setCell ⟨go, q, none⟩ (.slice u5A (xs.length + 1) u5c)).ownsRow (mb + 1) 26 1 (.slice (some ⟨go, 0, none⟩) vt.length cap) (vt.set q (.slice u5A (xs.length + 1) u5c)).length (vt.set q (.slice u5A (xs.length + 1) u5c))) := by
     show World.ownsRow _ _ _ _ _ _ _
     rw [List.length_set]
     exact (Hown5.out.stored q _).1
    have HmapE : Hid ((w5.setCell ⟨go, q, none⟩ (.slice u5A (xs.length + 1) u5c)).ownsMap Tryz.prog 3 (plainElem Tryz.prog 3) mb (k + 1) D') := by
     refine (HmapT.out.kept Hgr5'.out ?_).kept (row := some go) (Hown5.out.stored q _).2 ?_
     ·intro he
      have := Hub.out mb he.symm
      omega
     ·intro he
      injection he with he
      omega
    have HbrE : Hid (Below mb w1 (w5.setCell ⟨go, q, none⟩ (.slice u5A (xs.length + 1) u5c))) := by
     refine (HbrT.out.grown Hgr5'.out (by omega) (fun i hi => by have := Hub.out i hi; omega)).setCell ?_ _
     show mb ≤ go
     omega
    have hsE : mb + 1 ≤ (w5.setCell ⟨go, q, none⟩ (.slice u5A (xs.length + 1) u5c)).heap.size := by
     have : w3.heap.size + 1 ≤ w5.heap.size := by rw [← Hsz3.out]; exact hsu
     simp [World.setCell]
     omega
    have HsE := hid hsE
    clear hsE hsu
    go_wp2
    go_roundw
    case rel => exact ⟨k + 1, _, D', by go_num, by omega, HownE.out, HfamE.out, HmapE.out, HplT.out, HbrE.out, HsE.out⟩
    case measure => simp [intOf]; omega
  ·have hke : k = m := by omega
   have Hr2 := hid (Hfam.out.rows Hown.out)
   subst hke
   go_wp2
   go_ret2
   refine ⟨_, rfl, Hr2.out, Hb1.out.trans (Hbr.out.mono Hmbw.out)⟩
open Go.RowKit
def Xi2 (w : World) (x : Int) (e : Ending) (w' : World) : Prop := e = .returned (.int .i64 x) ∧ Below w.heap.size w w'
def rankN (m : Nat) (ns : List (Nat × Nat)) : Int := (m : Int) - (E5_ m ns : Int)
theorem Yn7 (m : Nat) (v : Value) (ns : List (Nat × Nat)) (w : World) (hr : Edges w w.heap.size v (castE ns)) (h1 : 1 ≤ m) (h2 : m ≤ 64) (h3 : ns.length ≤ 4096) (h4 : Lies m ns) :
  Calls Tryz.prog 82 #[.int .i64 m, v] w (Xi2 w (rankN m ns)) := by
 have Hp := hid (Yd6 m v ns w hr h1 h2 h3 h4)
 have h2' : (m : Int) ≤ 64 := by omega
 have h1' : 1 ≤ (m : Int) := by omega
 obtain ⟨A, c, rfl, _⟩ := hr
 clear h4 h3
 go_enter Tryz.func82, Tryz.ntmps82
 go_wp2_with fail
 refine Hp.out.mono ?_
 rintro e w1 ⟨v1, rfl, hr1, hb1⟩
 obtain ⟨A1, c1, rfl, _⟩ := hr1
 rw [A3_, Q0_]
 have hk := A1_ (rootB (compF ns)) m
 have Hk : Hid ((m : Int) - (cnt (rootB (compF ns)) m : Int) = rankN m ns) := rfl
 generalize cnt (rootB (compF ns)) m = k at *
 have hk' : (k : Int) ≤ m := by omega
 go_wp2
 go_ret
 exact ⟨by rw [← Hk.out]; rfl, hb1⟩
end Wp
end Go.Proofs.YtgadbnbhgpehjaaGreatDoor
