/- The program's way, plain: the lines of some columns come to what the columns come to; the columns of the basis are those of the lines; a goal is told just if it is a combination, and by which numbers. Nothing of the program here. -/
import Derived.Test.YtmnhpccdhefddaaDoorLAlg
namespace Go.Proofs.YtmnhpccdhefddaaDoor.Wp
variable {p : Int} {R : Nat}

/-- Of lines one more, of all of them 0 where these lead. -/
theorem ech_snoc : ∀ {ls : List Line} {l : Line}, Ech p R ls → LineOk p R l → (∀ m ∈ ls, l.left.getD m.lead 0 = 0 ∧ m.place < l.place) → Ech p R (ls ++ [l])
  | [], l, _, hl, _ => ⟨hl, fun _ h => (by cases h), trivial⟩
  | m :: ls, l, ⟨hm, hb, he⟩, hl, h => by
    refine ⟨hm, fun x hx => ?_, ech_snoc he hl fun x hx => h x (by simp [hx])⟩
    rcases List.mem_append.1 hx with hx | hx
    · exact hb x hx
    · obtain rfl := List.mem_singleton.1 hx
      exact h m (by simp)
theorem ech_ok : ∀ {ls : List Line}, Ech p R ls → ∀ l ∈ ls, LineOk p R l
  | m :: ls, ⟨hm, _, he⟩, l, hl => by
    rcases List.mem_cons.1 hl with rfl | hl
    · exact hm
    · exact ech_ok he l hl
theorem ech_at : ∀ {a b : List Line} {l : Line}, Ech p R (a ++ l :: b) → (∀ m ∈ a, m.place < l.place) ∧ (∀ m ∈ b, l.place < m.place)
  | [], b, l, ⟨_, h, _⟩ => ⟨fun _ h => (by cases h), fun m hm => (h m hm).2⟩
  | x :: a, b, l, ⟨_, h, he⟩ => by
    have ih := ech_at he
    refine ⟨fun m hm => ?_, ih.2⟩
    rcases List.mem_cons.1 hm with rfl | hm
    · exact (h l (by simp)).2
    · exact ih.1 m hm
/-- What lines come to, and is 0 where they lead, is 0. -/
theorem ech_zero : ∀ {ls : List Line} {v : Vec}, Ech p R ls → InSp p R (ls.map fun l => vec l.left) v → (∀ l ∈ ls, p ∣ v l.lead) → ∀ r, r < R → p ∣ v r
  | [], v, _, h, _ => h
  | l :: ls, v, ⟨hok, hb, he⟩, ⟨c, h⟩, hz => by
    have key : ∀ {us : List Line} {w : Vec}, (∀ m ∈ us, m.left.getD l.lead 0 = 0) → InSp p R (us.map fun l => vec l.left) w → p ∣ w l.lead := by
      intro us
      induction us with
      | nil => intro w _ h; exact h _ hok.lt
      | cons x us ih =>
        intro w hz ⟨d, h⟩
        have h1 : p ∣ w l.lead - d * vec x.left l.lead := ih (fun m hm => hz m (by simp [hm])) h
        have h2 : vec x.left l.lead = 0 := hz x (by simp)
        rwa [h2, Int.mul_zero, Int.sub_zero] at h1
    have h1 : p ∣ v l.lead - c * vec l.left l.lead := key (fun m hm => (hb m hm).1) h
    have h2 := hz l (by simp)
    have h3 : p ∣ c * vec l.left l.lead := by
      have := Int.dvd_sub h2 h1
      rwa [show v l.lead - (v l.lead - c * vec l.left l.lead) = c * vec l.left l.lead by omega] at this
    have hc : p ∣ c := by
      have h4 := Int.dvd_trans h3 (Int.dvd_mul_right _ l.inv)
      have h5 := Int.dvd_trans hok.inv (Int.dvd_mul_left c _)
      have h6 := Int.dvd_sub h4 h5
      unfold vec at h6
      have e : c * l.left.getD l.lead 0 * l.inv - c * (l.left.getD l.lead 0 * l.inv - 1) = c := by
        rw [Int.mul_sub, Int.mul_one, Int.mul_assoc]
        omega
      rwa [e] at h6
    have hcr : ∀ r, p ∣ c * vec l.left r := fun r => Int.dvd_trans hc (Int.dvd_mul_right c _)
    have ih := ech_zero he h fun m hm => Int.dvd_sub (hz m (by simp [hm])) (hcr _)
    intro r hr
    have := Int.dvd_add (ih r hr) (hcr r)
    rwa [show v r - c * vec l.left r + c * vec l.left r = v r by omega] at this

/-! ### All columns ahead of k -/
def colV (cols : List (List Int)) (i : Nat) : Vec := vec (cols.getD i [])
def firsts (cols : List (List Int)) (k : Nat) : List Vec := (List.range k).map (colV cols)
theorem firsts_succ (cols : List (List Int)) (k : Nat) : firsts cols (k + 1) = firsts cols k ++ [colV cols k] := by simp [firsts, List.range_succ]
/-- No combination of those ahead. -/
def InB (p : Int) (R : Nat) (cols : List (List Int)) (i : Nat) : Prop := ¬ InSp p R (firsts cols i) (colV cols i)
open Classical in
noncomputable def basN (p : Int) (R : Nat) (cols : List (List Int)) (k : Nat) : List Nat := (List.range k).filter fun i => decide (InB p R cols i)
theorem basN_in {cols : List (List Int)} {k : Nat} (h : InB p R cols k) : basN p R cols (k + 1) = basN p R cols k ++ [k] := by
  unfold basN
  rw [List.range_succ, List.filter_append]
  simp [h]
theorem basN_out {cols : List (List Int)} {k : Nat} (h : ¬ InB p R cols k) : basN p R cols (k + 1) = basN p R cols k := by
  unfold basN
  rw [List.range_succ, List.filter_append]
  simp [h]
theorem basN_mem {cols : List (List Int)} {k i : Nat} : i ∈ basN p R cols k ↔ i < k ∧ InB p R cols i := by
  unfold basN
  simp [List.mem_filter]

structure Lines (p : Int) (R : Nat) (cols : List (List Int)) (k : Nat) (ls : List Line) : Prop where
  ech : Ech p R ls
  pl : ls.map Line.place = basN p R cols k
  span : ∀ v, InSp p R (ls.map fun l => vec l.left) v ↔ InSp p R (firsts cols k) v
  from_ : ∀ (a : List Line) (l : Line) (b : List Line), ls = a ++ l :: b →
    (∀ r, r < R → p ∣ colV cols l.place r - l.left.getD r 0 - lin (a.map fun m => l.by_ m.place) (a.map fun m => vec m.left) r) ∧ ∀ x, l.by_ x ≠ 0 → ∃ m ∈ a, m.place = x
theorem Lines.lt {cols : List (List Int)} {k : Nat} {ls : List Line} (h : Lines p R cols k ls) {l : Line} (hl : l ∈ ls) : l.place < k := by
  have : l.place ∈ basN p R cols k := by rw [← h.pl]; exact List.mem_map.2 ⟨l, hl, rfl⟩
  exact (basN_mem.1 this).1

/-- What is taken off a column that may be. -/
theorem Lines.take (hp : 0 < p) {cols : List (List Int)} {k : Nat} {ls : List Line} (h : Lines p R cols k ls) {col : List Int} (hc : InR p R col) : Taken p R ls col (fun _ => 0) (takeT p ls col) :=
  taken hp h.ech hc (fun _ => ⟨by omega, hp⟩) fun _ _ => rfl
theorem Lines.left (hp : 0 < p) {cols : List (List Int)} {k : Nat} {ls : List Line} (h : Lines p R cols k ls) {col : List Int} (hc : InR p R col) : InSp p R (firsts cols k) fun r => col.getD r 0 - (takeT p ls col).1.getD r 0 := by
  rw [← h.span]
  refine sp_eqv (sp_lin (ls.map fun l => (takeT p ls col).2 l.place) _) fun r hr => ?_
  have := (h.take hp hc).sum r hr
  rw [show lin (ls.map fun l => (takeT p ls col).2 l.place) (ls.map fun l => vec l.left) r - (col.getD r 0 - (takeT p ls col).1.getD r 0) = -(col.getD r 0 - (takeT p ls col).1.getD r 0 - lin (ls.map fun l => (takeT p ls col).2 l.place) (ls.map fun l => vec l.left) r) by omega]
  exact (Int.dvd_neg).2 this
/-- A column is a combination just if nothing is left. -/
theorem Lines.in_iff (hp : 0 < p) {cols : List (List Int)} {k : Nat} {ls : List Line} (h : Lines p R cols k ls) {col : List Int} (hc : InR p R col) : InSp p R (firsts cols k) (vec col) ↔ leadI (takeT p ls col).1 < 0 := by
  have ht := h.take hp hc
  have hl := h.left hp hc
  constructor
  · intro hin
    have h1 : InSp p R (ls.map fun l => vec l.left) (vec (takeT p ls col).1) := by
      rw [h.span]
      exact sp_congr (sp_sub hin hl) fun r _ => by unfold vec; omega
    have h2 := ech_zero h.ech h1 fun l hl => by
      unfold vec
      rw [ht.zero l hl]
      exact Int.dvd_zero p
    have h3 : leadI (takeT p ls col).1 = -1 := leadI_miss fun j hj => by
      have hg := ht.row.get hp j
      exact zero_of_dvd (h2 j (by rw [← ht.row.1]; exact hj)) hg.1 hg.2
    rw [h3]
    decide
  · intro hneg
    rcases leadI_cases (takeT p ls col).1 with ⟨_, hz⟩ | ⟨i, _, hi, _⟩
    · refine sp_congr hl fun r _ => ?_
      rw [hz r]
      unfold vec
      omega
    · rw [hi] at hneg
      omega

theorem Lines.next (hp : 0 < p) {inv : Int → Int} (hinv : ∀ x, 0 < x → x < p → p ∣ x * inv x - 1 ∧ 0 ≤ inv x ∧ inv x < p) {cols : List (List Int)} {k : Nat} {ls : List Line} (h : Lines p R cols k ls) (hc : InR p R (cols.getD k [])) : Lines p R cols (k + 1) (addL p inv ls k (cols.getD k [])) := by
  have ht := h.take hp hc
  have hl := h.left hp hc
  have hiff := h.in_iff hp hc
  unfold addL
  by_cases hneg : leadI (takeT p ls (cols.getD k [])).1 < 0
  · rw [if_pos hneg]
    have hin : InSp p R (firsts cols k) (colV cols k) := hiff.2 hneg
    refine ⟨h.ech, by rw [basN_out (fun hn => hn hin)]; exact h.pl, fun v => ?_, h.from_⟩
    rw [h.span, firsts_succ]
    exact ⟨sp_mono fun x hx => List.mem_append.2 (.inl hx), sp_trans fun x hx => by
      rcases List.mem_append.1 hx with hx | hx
      · exact sp_mem hx
      · obtain rfl := List.mem_singleton.1 hx
        exact hin⟩
  · rw [if_neg hneg]
    have hout : InB p R cols k := fun hin => hneg (hiff.1 hin)
    rcases leadI_cases (takeT p ls (cols.getD k [])).1 with ⟨hi, _⟩ | ⟨i, hil, hi, hx, hz⟩
    · rw [hi] at hneg
      exact absurd (by decide) hneg
    rw [hi, Int.toNat_natCast]
    generalize hT : takeT p ls (cols.getD k []) = T at *
    have hiR : i < R := by rw [← ht.row.1]; exact hil
    have hg := ht.row.get hp i
    have hv := hinv (T.1.getD i 0) (by omega) hg.2
    have hby : ∀ x, T.2 x ≠ 0 → ∃ m ∈ ls, m.place = x := by
      intro x hx
      apply Classical.byContradiction
      intro hn
      exact hx (ht.off x fun l hl e => hn ⟨l, hl, e⟩)
    have hok : LineOk p R ⟨k, T.1, i, inv (T.1.getD i 0), T.2⟩ := ⟨ht.row, hiR, hz, hv.1, hv.2, ht.byr, fun x hx => by
      obtain ⟨m, hm, rfl⟩ := hby x hx
      exact h.lt hm⟩
    refine ⟨ech_snoc h.ech hok fun m hm => ⟨ht.zero m hm, h.lt hm⟩, by rw [basN_in hout, List.map_append, h.pl]; rfl, fun v => ?_, ?_⟩
    · rw [firsts_succ, List.map_append]
      have hlc : InSp p R (firsts cols k ++ [colV cols k]) (vec T.1) := by
        refine sp_congr (sp_sub (sp_mem (u := colV cols k) (by simp)) (sp_mono (fun x hx => List.mem_append.2 (.inl hx)) hl)) fun r _ => ?_
        unfold colV vec
        omega
      have hcl : InSp p R (ls.map (fun l => vec l.left) ++ [vec T.1]) (colV cols k) := by
        refine sp_congr (sp_add (sp_mem (u := vec T.1) (by simp)) (sp_mono (us := ls.map fun l => vec l.left) (fun x hx => List.mem_append.2 (.inl hx)) ((h.span _).2 hl))) fun r _ => ?_
        unfold colV vec
        omega
      constructor
      · refine sp_trans fun x hx => ?_
        rcases List.mem_append.1 hx with hx | hx
        · exact sp_mono (fun y hy => List.mem_append.2 (.inl hy)) ((h.span _).1 (sp_mem hx))
        · obtain rfl := List.mem_singleton.1 hx
          exact hlc
      · refine sp_trans fun x hx => ?_
        rcases List.mem_append.1 hx with hx | hx
        · exact sp_mono (fun y hy => List.mem_append.2 (.inl hy)) ((h.span _).2 (sp_mem hx))
        · obtain rfl := List.mem_singleton.1 hx
          exact hcl
    · intro a l b e
      rcases List.eq_nil_or_concat b with rfl | ⟨b', z, rfl⟩
      · obtain ⟨rfl, e2⟩ := List.append_inj' e (by simp)
        injection e2 with e2 _
        subst e2
        exact ⟨ht.sum, hby⟩
      · rw [List.concat_eq_append, ← List.cons_append, ← List.append_assoc] at e
        obtain ⟨e1, _⟩ := List.append_inj' e (by simp)
        exact h.from_ a l b' e1

theorem lines_any (hp : 0 < p) {inv : Int → Int} (hinv : ∀ x, 0 < x → x < p → p ∣ x * inv x - 1 ∧ 0 ≤ inv x ∧ inv x < p) {cols : List (List Int)} : ∀ {k : Nat}, (∀ i, i < k → InR p R (cols.getD i [])) → Lines p R cols k (linesL p inv cols k)
  | 0, _ => ⟨trivial, rfl, fun _ => Iff.rfl, fun a l b e => by cases a <;> cases e⟩
  | k + 1, hc => (lines_any hp hinv fun i hi => hc i (by omega)).next hp hinv (hc k (by omega))

end Go.Proofs.YtmnhpccdhefddaaDoor.Wp
