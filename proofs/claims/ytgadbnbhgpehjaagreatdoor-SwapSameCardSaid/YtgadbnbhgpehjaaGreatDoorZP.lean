/- What is connected, plain: graphs as lists of pairs, each vertex's least connected one, parts, the rank; the document's labels. Nothing of the program here. The parts of a graph, as lists, and how they come vertex by vertex. Nothing of the program here. Combinations modulo a prime, plain. Ranks, plain: what a rank of properties of numbers below n is; that it is submodular; truncated, turned round, mapped, contracted and added ones are ranks again. Nothing of the program here. Matchings and covers, plain. Ranks of what has none within, plain: of edges, of classes, of columns, of those that go with others. Nothing of the program here. -/
import Derived.Lib.Hide
open Nat (le_refl)
namespace Go.Proofs.YtgadbnbhgpehjaaGreatDoor.Wp
def cnt (p : Nat → Bool) (n : Nat) : Nat := ((List.range n).filter p).length
theorem X3_ (p : Nat → Bool) (n : Nat) : cnt p (n + 1) = cnt p n + if p n then 1 else 0 := by
 unfold cnt
 rw [List.range_succ, List.filter_append, List.length_append]
 cases h : p n <;> simp [h]
theorem A1_ (p : Nat → Bool) : ∀ n, cnt p n ≤ n
 | 0 => by simp [cnt]
 | n + 1 => by
  rw [X3_]
  have := A1_ p n
  split <;> omega
theorem W1_ {p q : Nat → Bool} : ∀ {n : Nat}, (∀ v, v < n → p v = true → q v = true) → cnt p n ≤ cnt q n
 | 0, _ => by simp [cnt]
 | n + 1, h => by
  have ih := W1_ (p := p) (q := q) (n := n) fun v hv => h v (by omega)
  have hn := h n (by omega)
  rw [X3_, X3_]
  cases hp : p n
  ·simp; omega
  ·simp [hn hp]; omega
theorem Ym1 {p q : Nat → Bool} : ∀ {n : Nat}, (∀ v, v < n → p v = true → q v = true) → (∃ y, y < n ∧ p y = false ∧ q y = true) → cnt p n < cnt q n
 | 0, _, ⟨y, hy, _⟩ => by omega
 | n + 1, h, ⟨y, hy, hp, hq⟩ => by
  rw [X3_, X3_]
  by_cases hyn : y = n
  ·subst hyn
   have := W1_ (p := p) (q := q) (n := y) fun v hv => h v (by omega)
   simp [hp, hq]
   omega
  ·have ih := Ym1 (p := p) (q := q) (n := n) (fun v hv => h v (by omega)) ⟨y, by omega, hp, hq⟩
   have hn := h n (by omega)
   cases hpn : p n
   ·simp; omega
   ·simp [hn hpn]; omega
theorem Zz9 {p q : Nat → Bool} {y : Nat} (hp : p y = true) (hq : q y = false) (h : ∀ v, v ≠ y → p v = q v) : ∀ {n : Nat}, cnt p n = cnt q n + if y < n then 1 else 0
 | 0 => by simp [cnt]
 | n + 1 => by
  have ih := Zz9 hp hq h (n := n)
  rw [X3_, X3_, ih]
  by_cases hyn : y = n
  ·subst hyn
   simp [hp, hq]
  ·rw [h n (by omega)]
   by_cases hlt : y < n
   ·rw [if_pos hlt, if_pos (show y < n + 1 by omega)]; omega
   ·rw [if_neg hlt, if_neg (show ¬ y < n + 1 by omega)]; omega
theorem Zr6 {p : Nat → Bool} : ∀ {n : Nat}, cnt p n = n → ∀ v, v < n → p v = true
 | 0, _, v, hv => by omega
 | n + 1, h, v, hv => by
  rw [X3_] at h
  have hl := A1_ p n
  cases hp : p n
  ·rw [hp] at h; simp at h; omega
  ·rw [hp] at h
   simp at h
   by_cases hvn : v = n
   ·subst hvn; exact hp
   ·exact Zr6 h v (by omega)
theorem O1_ {p : Nat → Bool} : ∀ {n : Nat}, (∀ v, v < n → p v = true) → cnt p n = n
 | 0, _ => by simp [cnt]
 | n + 1, h => by
  rw [X3_, h n (by omega), O1_ fun v hv => h v (by omega)]
  simp
def Cst (es : List (Nat × Nat)) (g : Nat → Nat) : Prop := ∀ e ∈ es, g e.1 = g e.2
def Good (es : List (Nat × Nat)) (f : Nat → Nat) : Prop := Cst es f ∧ (∀ g, Cst es g → ∀ v, g (f v) = g v) ∧ ∀ v, f v ≤ v
theorem Good.uniq {es es' : List (Nat × Nat)} {f f' : Nat → Nat} (h : Good es f) (h' : Good es' f') (he : ∀ g, Cst es g ↔ Cst es' g) : f = f' := by
 funext v
 have a := h.2.1 f' ((he f').2 h'.1) v
 have b := h'.2.1 f ((he f).1 h.1) v
 have c := h'.2.2 (f v)
 have d := h.2.2 (f' v)
 omega
theorem Good.idem {es : List (Nat × Nat)} {f : Nat → Nat} (h : Good es f) (v : Nat) : f (f v) = f v := h.2.1 f h.1 v
theorem cst_append {a b : List (Nat × Nat)} {g : Nat → Nat} : Cst (a ++ b) g ↔ Cst a g ∧ Cst b g := by
 unfold Cst
 constructor
 ·intro h
  exact ⟨fun e he => h e (List.mem_append.2 (.inl he)), fun e he => h e (List.mem_append.2 (.inr he))⟩
 ·rintro ⟨h, k⟩ e he
  rcases List.mem_append.1 he with he | he
  ·exact h e he
  ·exact k e he
theorem cst_one {e : Nat × Nat} {g : Nat → Nat} : Cst [e] g ↔ g e.1 = g e.2 := by simp [Cst]
theorem Xo2 (g : Nat → Nat) : Cst [] g := fun _ h => absurd h (by simp)
def L8_ (f : Nat → Nat) (a b : Nat) : Nat → Nat := fun v => if f v = max a b then min a b else f v
def A7_ (f : Nat → Nat) (e : Nat × Nat) : Nat → Nat := L8_ f (f e.1) (f e.2)
def compF (es : List (Nat × Nat)) : Nat → Nat := es.foldl A7_ id
theorem Za4 (f : Nat → Nat) (a : Nat) : L8_ f a a = f := by
 funext v
 unfold L8_
 split <;> omega
theorem Xj1 : Good [] id := ⟨Xo2 _, fun _ _ _ => rfl, fun _ => le_refl _⟩
theorem Ym2 {es : List (Nat × Nat)} {f : Nat → Nat} (h : Good es f) (e : Nat × Nat) : Good (es ++ [e]) (A7_ f e) := by
 obtain ⟨a, b⟩ := e
 have ia := h.idem a
 have ib := h.idem b
 refine ⟨?_, ?_, ?_⟩
 ·rw [cst_append]
  refine ⟨fun e he => ?_, cst_one.2 ?_⟩
  ·unfold A7_ L8_
   rw [h.1 e he]
  ·unfold A7_ L8_
   simp only
   rcases Nat.le_total (f a) (f b) with hl | hl
   ·rw [Nat.max_eq_right hl, Nat.min_eq_left hl]
    split <;> simp_all
   ·rw [Nat.max_eq_left hl, Nat.min_eq_right hl]
    split <;> simp_all
 ·intro g hg v
  rw [cst_append, cst_one] at hg
  have k := h.2.1 g hg.1
  have ka := k a
  have kb := k b
  have kv := k v
  have hab : g a = g b := hg.2
  show g (if f v = max (f a) (f b) then min (f a) (f b) else f v) = g v
  split
  ·rename_i hm
   rcases Nat.le_total (f a) (f b) with hl | hl
   ·rw [Nat.max_eq_right hl] at hm
    rw [Nat.min_eq_left hl, ka, hab, ← kb, ← hm, kv]
   ·rw [Nat.max_eq_left hl] at hm
    rw [Nat.min_eq_right hl, kb, ← hab, ← ka, ← hm, kv]
  ·exact kv
 ·intro v
  have hv := h.2.2 v
  show (if f v = max (f a) (f b) then min (f a) (f b) else f v) ≤ v
  split <;> omega
theorem Zi7 : ∀ (es pre : List (Nat × Nat)) (f : Nat → Nat), Good pre f → Good (pre ++ es) (es.foldl A7_ f)
 | [], pre, f, h => by simpa using h
 | e :: es, pre, f, h => by
  have := Zi7 es (pre ++ [e]) _ (Ym2 h e)
  simpa using this
theorem Q6_ (es : List (Nat × Nat)) : Good es (compF es) := Zi7 es [] id Xj1
theorem Zy0 (es : List (Nat × Nat)) (e : Nat × Nat) : compF (es ++ [e]) = A7_ (compF es) e := by
 unfold compF
 rw [List.foldl_append]
 rfl
theorem Zi8 {a b : List (Nat × Nat)} (h : ∀ g, Cst a g ↔ Cst b g) : compF a = compF b := (Q6_ a).uniq (Q6_ b) h
theorem Ym3 (es : List (Nat × Nat)) (v : Nat) : compF es v ≤ v := (Q6_ es).2.2 v
theorem Zi9 (es : List (Nat × Nat)) (v : Nat) : compF es (compF es v) = compF es v := (Q6_ es).idem v
theorem Ym4 {es : List (Nat × Nat)} {e : Nat × Nat} (h : e ∈ es) : compF es e.1 = compF es e.2 := (Q6_ es).1 e h
theorem Zk0 (a b : List (Nat × Nat)) (v : Nat) : compF (a ++ b) (compF a v) = compF (a ++ b) v :=
 (Q6_ a).2.1 _ ((cst_append.1 (Q6_ (a ++ b)).1).1) v
def rootB (f : Nat → Nat) (r : Nat) : Bool := decide (f r = r)
def E5_ (n : Nat) (es : List (Nat × Nat)) : Nat := cnt (rootB (compF es)) n
theorem Zy1 (n : Nat) (es : List (Nat × Nat)) : E5_ n es ≤ n := A1_ _ _
theorem Zr7 {n : Nat} {a b : List (Nat × Nat)} (h : ∀ g, Cst a g ↔ Cst b g) : E5_ n a = E5_ n b := by unfold E5_; rw [Zi8 h]
theorem Ym5 {n : Nat} {es : List (Nat × Nat)} {e : Nat × Nat} (h : compF es e.1 = compF es e.2) : E5_ n (es ++ [e]) = E5_ n es := by
 unfold E5_
 rw [Zy0, A7_, h, Za4]
theorem Yb9 {n : Nat} {es : List (Nat × Nat)} {e : Nat × Nat} (h : compF es e.1 ≠ compF es e.2) (h1 : e.1 < n) (h2 : e.2 < n) : E5_ n es = E5_ n (es ++ [e]) + 1 := by
 obtain ⟨a, b⟩ := e
 unfold E5_
 rw [Zy0]
 have g := Q6_ es
 generalize compF es = f at *
 have ia := g.idem a
 have ib := g.idem b
 have la := g.2.2 a
 have lb := g.2.2 b
 simp only at h h1 h2
 have hi : f (max (f a) (f b)) = max (f a) (f b) := by
  rcases Nat.le_total (f a) (f b) with hl | hl
  ·rw [Nat.max_eq_right hl]; exact ib
  ·rw [Nat.max_eq_left hl]; exact ia
 have lo : f (min (f a) (f b)) = min (f a) (f b) := by
  rcases Nat.le_total (f a) (f b) with hl | hl
  ·rw [Nat.min_eq_left hl]; exact ia
  ·rw [Nat.min_eq_right hl]; exact ib
 have := Zz9 (n := n) (p := rootB f) (q := rootB (A7_ f (a, b))) (y := max (f a) (f b)) (by simpa [rootB] using hi) ?_ ?_
 ·rw [this, if_pos (by omega)]
 ·simp only [rootB, A7_, L8_, decide_eq_false_iff_not]
  rw [if_pos hi]
  omega
 ·intro v hv
  simp only [rootB, A7_, L8_]
  rw [decide_eq_decide]
  by_cases hm : f v = max (f a) (f b)
  ·rw [if_pos hm]
   constructor
   ·intro he; omega
   ·intro he
    rw [← he, lo] at hm
    omega
  ·rw [if_neg hm]
theorem Yc0 (n : Nat) : E5_ n [] = n := O1_ fun v _ => by simp [rootB, compF]
def Lies (n : Nat) (es : List (Nat × Nat)) : Prop := ∀ e ∈ es, e.1 < n ∧ e.2 < n
def stepF (f : Nat → Nat) (e : Nat × Nat) : Nat → Nat := fun x => if x = e.2 then min (f e.1) (f e.2) else if x = e.1 then min (f e.1) (f e.2) else f x
def Vy6 (es : List (Nat × Nat)) (f : Nat → Nat) : Nat → Nat := es.foldl stepF f
def V9_ (es : List (Nat × Nat)) : Nat → Nat → Nat
 | 0 => id
 | k + 1 => Vy6 es (V9_ es k)
def Inv (es : List (Nat × Nat)) (h : Nat → Nat) : Prop := (∀ g, Cst es g → ∀ v, g (h v) = g v) ∧ ∀ v, h v ≤ v
theorem Xj2 {es : List (Nat × Nat)} {h : Nat → Nat} (hi : Inv es h) {e : Nat × Nat} (he : e ∈ es) : Inv es (stepF h e) := by
 refine ⟨fun g hg v => ?_, fun v => ?_⟩
 ·have k1 := hi.1 g hg e.1
  have k2 := hi.1 g hg e.2
  have k3 := hg e he
  have km : g (min (h e.1) (h e.2)) = g e.2 := by
   rcases Nat.le_total (h e.1) (h e.2) with hl | hl
   ·rw [Nat.min_eq_left hl, k1, k3]
   ·rw [Nat.min_eq_right hl, k2]
  unfold stepF
  split
  ·rename_i hv; rw [km, hv]
  ·split
   ·rename_i hv; rw [km, hv, k3]
   ·exact hi.1 g hg v
 ·have k1 := hi.2 e.1
  have k2 := hi.2 e.2
  have k3 := hi.2 v
  unfold stepF
  split
  ·omega
  ·split <;> omega
theorem Xo3 (h : Nat → Nat) (e : Nat × Nat) (x : Nat) : stepF h e x ≤ h x := by
 unfold stepF
 split
 ·rename_i hx; rw [hx]; omega
 ·split
  ·rename_i hx; rw [hx]; omega
  ·exact le_refl _
theorem Yx6 {es : List (Nat × Nat)} {h : Nat → Nat} (hi : Inv es h) (v : Nat) : compF es v ≤ h v := by
 have := hi.1 (compF es) (Q6_ es).1 v
 have := Ym3 es (h v)
 omega
theorem Ze5 {es : List (Nat × Nat)} : ∀ (t : List (Nat × Nat)) (h : Nat → Nat), Inv es h → (∀ e ∈ t, e ∈ es) →
  Inv es (t.foldl stepF h) ∧ (∀ v, h v = compF es v → t.foldl stepF h v = compF es v) ∧
   ∀ e ∈ t, h e.1 = compF es e.1 ∨ h e.2 = compF es e.2 → t.foldl stepF h e.1 = compF es e.1 ∧ t.foldl stepF h e.2 = compF es e.2
 | [], h, hi, _ => ⟨hi, fun _ hv => hv, fun e he => absurd he (by simp)⟩
 | e :: t, h, hi, hs => by
  have he := hs e (by simp)
  have hi' := Xj2 hi he
  obtain ⟨a, b, c⟩ := Ze5 t (stepF h e) hi' (fun x hx => hs x (by simp [hx]))
  have keep : ∀ v, h v = compF es v → stepF h e v = compF es v := fun v hv => by
   have := Xo3 h e v
   have := Yx6 hi' v
   omega
  refine ⟨a, fun v hv => b v (keep v hv), fun x hx hr => ?_⟩
  rcases List.mem_cons.1 hx with rfl | hx
  ·have hL := Ym4 he
   have g1 := Yx6 hi x.1
   have g2 := Yx6 hi x.2
   have hm : min (h x.1) (h x.2) = compF es x.2 := by rcases hr with hr | hr <;> omega
   refine ⟨b x.1 ?_, b x.2 ?_⟩
   ·unfold stepF
    rw [if_pos rfl, hm]
    split <;> omega
   ·unfold stepF
    rw [if_pos rfl, hm]
  ·exact c x hx (hr.imp (keep _) (keep _))
theorem R6_ (es : List (Nat × Nat)) : ∀ k, Inv es (V9_ es k)
 | 0 => ⟨fun _ _ _ => rfl, fun _ => le_refl _⟩
 | k + 1 => (Ze5 es _ (R6_ es k) fun _ h => h).1
theorem Za5 {n : Nat} {es : List (Nat × Nat)} (hl : Lies n es) : ∀ k, k ≤ n → k ≤ cnt (fun v => decide (V9_ es k v = compF es v)) n
 | 0, _ => Nat.zero_le _
 | k + 1, hk => by
  have ih := Za5 hl k (by omega)
  obtain ⟨_, b, c⟩ := Ze5 es _ (R6_ es k) fun _ h => h
  have hi := R6_ es k
  show k + 1 ≤ cnt (fun v => decide (es.foldl stepF (V9_ es k) v = compF es v)) n
  generalize V9_ es k = h at *
  by_cases hall : cnt (fun v => decide (h v = compF es v)) n = n
  ·have ha := Zr6 hall
   rw [O1_ fun v hv => by simpa using b v (by simpa using ha v hv)]
   exact hk
  ·have hcross : ∃ e ∈ es, (h e.1 = compF es e.1 ∧ h e.2 ≠ compF es e.2) ∨ (h e.2 = compF es e.2 ∧ h e.1 ≠ compF es e.1) := by
    refine Classical.byContradiction fun hno => hall (O1_ fun v hv => ?_)
    have hc : Cst es (fun v => if h v = compF es v then 0 else 1) := by
     intro e he
     by_cases h1 : h e.1 = compF es e.1
     ·by_cases h2 : h e.2 = compF es e.2
      ·simp [h1, h2]
      ·exact absurd ⟨e, he, .inl ⟨h1, h2⟩⟩ hno
     ·by_cases h2 : h e.2 = compF es e.2
      ·exact absurd ⟨e, he, .inr ⟨h2, h1⟩⟩ hno
      ·simp [h1, h2]
    have hg := (Q6_ es).2.1 _ hc v
    have hr : h (compF es v) = compF es (compF es v) := by
     have h1 := Yx6 hi (compF es v)
     have h2 := hi.2 (compF es v)
     rw [Zi9] at h1 ⊢
     omega
    rw [if_pos hr] at hg
    by_cases hv' : h v = compF es v
    ·simpa using hv'
    ·rw [if_neg hv'] at hg; omega
   obtain ⟨e, he, hx⟩ := hcross
   have hlt := Ym1 (p := fun v => decide (h v = compF es v)) (q := fun v => decide (es.foldl stepF h v = compF es v)) (n := n)
    (fun v _ hv => by simpa using b v (by simpa using hv)) (by
     have hle := hl e he
     rcases hx with ⟨h1, h2⟩ | ⟨h1, h2⟩
     ·exact ⟨e.2, hle.2, by simpa using h2, by simpa using (c e he (.inl h1)).2⟩
     ·exact ⟨e.1, hle.1, by simpa using h2, by simpa using (c e he (.inr h1)).1⟩)
   omega
theorem Zr8 {n : Nat} {es : List (Nat × Nat)} (hl : Lies n es) (v : Nat) (hv : v < n) : V9_ es n v = compF es v := by
 have h := Za5 hl n (le_refl _)
 have h2 := A1_ (fun v => decide (V9_ es n v = compF es v)) n
 simpa using Zr6 (Nat.le_antisymm h2 h) v hv
end Go.Proofs.YtgadbnbhgpehjaaGreatDoor.Wp
namespace Go.Proofs.YtgadbnbhgpehjaaGreatDoor.Wp
def Y7_ (n : Nat) (f : Nat → Nat) (r : Nat) : List Nat := (List.range n).filter fun v => decide (f v = r)
def B6_ (n : Nat) (f : Nat → Nat) : List Nat := (List.range n).filter (rootB f)
def A8_ (n : Nat) (f : Nat → Nat) : List (List Nat) := (B6_ n f).map (Y7_ n f)
theorem Q0_ (n : Nat) (f : Nat → Nat) : (A8_ n f).length = cnt (rootB f) n := by simp [A8_, B6_, cnt]
theorem M5_ (n : Nat) (f : Nat → Nat) (r : Nat) : Y7_ (n + 1) f r = Y7_ n f r ++ if f n = r then [n] else [] := by
 unfold Y7_
 rw [List.range_succ, List.filter_append]
 by_cases h : f n = r <;> simp [h]
theorem H2_ (n : Nat) (f : Nat → Nat) : B6_ (n + 1) f = B6_ n f ++ if f n = n then [n] else [] := by
 unfold B6_
 rw [List.range_succ, List.filter_append]
 by_cases h : f n = n <;> simp [rootB, h]
theorem mem_rootsL {n : Nat} {f : Nat → Nat} {r : Nat} : r ∈ B6_ n f ↔ r < n ∧ f r = r := by simp [B6_, rootB]
theorem mem_partAt {n : Nat} {f : Nat → Nat} {r v : Nat} : v ∈ Y7_ n f r ↔ v < n ∧ f v = r := by simp [Y7_]
theorem O2_ (n : Nat) (f : Nat → Nat) (r : Nat) : (Y7_ n f r).length ≤ n := by
 have := List.length_filter_le (fun v => decide (f v = r)) (List.range n)
 simpa [Y7_] using this
theorem O3_ {f : Nat → Nat} {r : Nat} (hr : f r = r) : ∀ {n : Nat}, r < n → (B6_ n f)[cnt (rootB f) r]? = some r
 | 0, h => by omega
 | n + 1, h => by
  rw [H2_]
  have hl : (B6_ n f).length = cnt (rootB f) n := rfl
  by_cases hrn : r = n
  ·subst hrn
   rw [if_pos hr, List.getElem?_append_right (by omega), hl]
   simp
  ·have ih := O3_ hr (n := n) (by omega)
   have hlt := (List.getElem?_eq_some_iff.1 ih).1
   rw [List.getElem?_append_left hlt]
   exact ih
theorem Zr9 {f : Nat → Nat} {r n : Nat} (hr : f r = r) (h : r < n) : cnt (rootB f) r < cnt (rootB f) n := by
 have := (List.getElem?_eq_some_iff.1 (O3_ hr h)).1
 exact this
def Y9_ (k : Nat) (f : Nat → Nat) : List (List Nat) := if f k = k then A8_ k f ++ [[]] else A8_ k f
theorem Yc1 {f : Nat → Nat} {k : Nat} (hle : ∀ v, f v ≤ v) : Y7_ k f k = [] := by
 rw [List.eq_nil_iff_forall_not_mem]
 intro v hv
 have := mem_partAt.1 hv
 have := hle v
 omega
theorem Zy2 (k : Nat) (f : Nat → Nat) : (Y9_ k f).length = cnt (rootB f) (k + 1) := by
 unfold Y9_
 rw [X3_]
 by_cases h : f k = k
 ·simp [h, rootB, Q0_]
 ·simp [h, rootB, Q0_]
theorem Zs0 {f : Nat → Nat} {k : Nat} (hle : ∀ v, f v ≤ v) (hid : ∀ v, f (f v) = f v) : cnt (rootB f) (f k) < (Y9_ k f).length := by
 rw [Zy2]
 exact Zr9 (hid k) (by have := hle k; omega)
theorem Xo4 {f : Nat → Nat} {k : Nat} (hle : ∀ v, f v ≤ v) (hid : ∀ v, f (f v) = f v) : (Y9_ k f)[cnt (rootB f) (f k)]? = some (Y7_ k f (f k)) := by
 unfold Y9_
 by_cases h : f k = k
 ·rw [if_pos h, h, List.getElem?_append_right (by rw [Q0_]; exact le_refl _), Q0_, Yc1 hle]
  simp
 ·have hlt : f k < k := by have := hle k; omega
  rw [if_neg h]
  unfold A8_
  rw [List.getElem?_map, O3_ (hid k) hlt]
  rfl
theorem Zs1 (n : Nat) (f : Nat → Nat) : (B6_ n f).Pairwise (· < ·) := List.Pairwise.sublist List.filter_sublist List.pairwise_lt_range
theorem Xj3 {l : List Nat} (h : l.Pairwise (· < ·)) {i j : Nat} {r : Nat} (hi : l[i]? = some r) (hj : l[j]? = some r) : i = j := by
 obtain ⟨a, ha⟩ := List.getElem?_eq_some_iff.1 hi
 obtain ⟨b, hb⟩ := List.getElem?_eq_some_iff.1 hj
 rcases Nat.lt_trichotomy i j with hlt | he | hlt
 ·have := List.pairwise_iff_getElem.1 h i j a b hlt
  omega
 ·exact he
 ·have := List.pairwise_iff_getElem.1 h j i b a hlt
  omega
theorem Yc2 {f : Nat → Nat} {k : Nat} (hle : ∀ v, f v ≤ v) (hid : ∀ v, f (f v) = f v) :
  A8_ (k + 1) f = (Y9_ k f).set (cnt (rootB f) (f k)) (Y7_ k f (f k) ++ [k]) := by
 refine List.ext_getElem? fun i => ?_
 have hlen : (B6_ (k + 1) f).length = cnt (rootB f) (k + 1) := rfl
 by_cases hi : i = cnt (rootB f) (f k)
 ·subst hi
  rw [List.getElem?_set_self (Zs0 hle hid)]
  unfold A8_
  rw [List.getElem?_map, O3_ (hid k) (by have := hle k; omega)]
  simp [M5_]
 ·rw [List.getElem?_set_ne (fun h => hi h.symm)]
  unfold A8_ Y9_
  rw [List.getElem?_map, H2_]
  have hother : ∀ r, (B6_ k f)[i]? = some r → Y7_ (k + 1) f r = Y7_ k f r := by
   intro r hr
   have hm := mem_rootsL.1 (List.mem_of_getElem? hr)
   rw [M5_]
   by_cases hk : f k = r
   ·exfalso
    have h2 := O3_ (f := f) (r := r) hm.2 (n := k) hm.1
    exact hi (by rw [hk]; exact Xj3 (Zs1 k f) hr h2)
   ·simp [hk]
  by_cases h : f k = k
  ·rw [if_pos h, if_pos h]
   have hi2 : i ≠ (B6_ k f).length := by rw [h] at hi; exact hi
   have hpl : (A8_ k f).length = (B6_ k f).length := by simp [A8_]
   by_cases hlt : i < (B6_ k f).length
   ·rw [List.getElem?_append_left hlt, List.getElem?_append_left (by rw [hpl]; exact hlt)]
    unfold A8_
    rw [List.getElem?_map, List.getElem?_eq_getElem hlt]
    simp [hother _ (List.getElem?_eq_getElem hlt)]
   ·rw [List.getElem?_eq_none (by simp; omega), List.getElem?_eq_none (by simp [hpl]; omega)]
    rfl
  ·rw [if_neg h, if_neg h, List.append_nil]
   unfold A8_
   rw [List.getElem?_map]
   rcases hr : (B6_ k f)[i]? with _ | r
   ·rfl
   ·simp [hother r hr]
end Go.Proofs.YtgadbnbhgpehjaaGreatDoor.Wp
namespace Go.Proofs.YtgadbnbhgpehjaaGreatDoor.Wp.L
abbrev Vec := Nat → Int
def Fld (p : Int) : Prop := ∀ c : Int, ¬ p ∣ c → ∃ d : Int, p ∣ c * d - 1
def InSp (p : Int) (R : Nat) : List Vec → Vec → Prop
 | [], v => ∀ r, r < R → p ∣ v r
 | u :: us, v => ∃ c : Int, InSp p R us fun r => v r - c * u r
variable {p : Int} {R : Nat}
theorem O4_ : ∀ {us : List Vec} {v w : Vec}, InSp p R us v → (∀ r, r < R → p ∣ v r - w r) → InSp p R us w
 | [], v, w, h, e => fun r hr => by
  have h1 := Int.dvd_sub (h r hr) (e r hr)
  rwa [show v r - (v r - w r) = w r by omega] at h1
 | u :: us, v, w, ⟨c, h⟩, e => ⟨c, O4_ h fun r hr => by
  have := e r hr
  rwa [show v r - c * u r - (w r - c * u r) = v r - w r by omega]⟩
theorem J4_ {us : List Vec} {v w : Vec} (h : InSp p R us v) (e : ∀ r, r < R → v r = w r) : InSp p R us w :=
 O4_ h fun r hr => by rw [e r hr]; simp
theorem R7_ : ∀ {us : List Vec}, InSp p R us fun _ => 0
 | [] => fun _ _ => Int.dvd_zero p
 | _ :: _ => ⟨0, J4_ R7_ fun r _ => by simp⟩
theorem Zy3 : ∀ {us : List Vec} {v w : Vec}, InSp p R us v → InSp p R us w → InSp p R us fun r => v r + w r
 | [], _, _, h, k => fun r hr => Int.dvd_add (h r hr) (k r hr)
 | u :: us, v, w, ⟨c, h⟩, ⟨d, k⟩ => ⟨c + d, J4_ (Zy3 h k) fun r _ => by dsimp only; rw [Int.add_mul]; omega⟩
theorem O5_ : ∀ {us : List Vec} {v : Vec} (k : Int), InSp p R us v → InSp p R us fun r => k * v r
 | [], _, k, h => fun r hr => Int.dvd_trans (h r hr) (Int.dvd_mul_left k _)
 | u :: us, v, k, ⟨c, h⟩ => ⟨k * c, J4_ (O5_ k h) fun r _ => by rw [Int.mul_sub, Int.mul_assoc]⟩
theorem Yx7 {us : List Vec} {v w : Vec} (h : InSp p R us v) (k : InSp p R us w) : InSp p R us fun r => v r - w r :=
 J4_ (Zy3 h (O5_ (-1) k)) fun r _ => by omega
theorem sp_up {us : List Vec} {u v : Vec} (h : InSp p R us v) : InSp p R (u :: us) v := ⟨0, J4_ h fun r _ => by simp⟩
theorem Zs2 (us : List Vec) (u : Vec) : InSp p R (u :: us) u := ⟨1, J4_ R7_ fun r _ => by omega⟩
theorem J2_ : ∀ {us : List Vec} {u : Vec}, u ∈ us → InSp p R us u
 | _ :: us, u, h => by
  rcases List.mem_cons.1 h with rfl | h
  ·exact Zs2 us _
  ·exact sp_up (J2_ h)
theorem A9_ : ∀ {us ws : List Vec} {v : Vec}, (∀ u ∈ us, InSp p R ws u) → InSp p R us v → InSp p R ws v
 | [], ws, v, _, h => O4_ R7_ fun r hr => by
  have := h r hr
  rw [show (0 : Int) - v r = -(v r) by omega]
  exact (Int.dvd_neg).2 this
 | u :: us, ws, v, hs, ⟨c, h⟩ => by
  have h1 := A9_ (fun x hx => hs x (by simp [hx])) h
  have h2 := O5_ c (hs u (by simp))
  exact J4_ (Zy3 h1 h2) fun r _ => by omega
theorem sp_mono {us ws : List Vec} {v : Vec} (hs : ∀ u ∈ us, u ∈ ws) (h : InSp p R us v) : InSp p R ws v := A9_ (fun u hu => J2_ (hs u hu)) h
theorem Xo5 (hf : Fld p) {us : List Vec} {u v : Vec} (h : InSp p R (u :: us) v) (hn : ¬ InSp p R us v) : InSp p R (v :: us) u := by
 obtain ⟨c, h⟩ := h
 by_cases hc : p ∣ c
 ·exact absurd (O4_ h fun r hr => by
   rw [show v r - c * u r - v r = -(c * u r) by omega]
   exact (Int.dvd_neg).2 (Int.dvd_trans hc (Int.dvd_mul_right c _))) hn
 ·obtain ⟨d, hd⟩ := hf c hc
  have h1 := O5_ (-d) h
  refine ⟨d, O4_ h1 fun r _ => ?_⟩
  rw [show -d * (v r - c * u r) - (u r - d * v r) = (c * d - 1) * u r by
   rw [Int.mul_sub, Int.sub_mul, Int.neg_mul, Int.neg_mul, ← Int.mul_assoc d c, Int.mul_comm d c]; omega]
  exact Int.dvd_trans hd (Int.dvd_mul_right _ _)
def Ind (p : Int) (R : Nat) : List Vec → Prop
 | [] => True
 | u :: us => ¬ InSp p R us u ∧ Ind p R us
theorem Yx8 (hf : Fld p) {w : Vec} {ws : List Vec} : ∀ {us : List Vec}, Ind p R us → (∀ u ∈ us, InSp p R (w :: ws) u) →
  (∀ u ∈ us, InSp p R ws u) ∨ ∃ us' u, Ind p R us' ∧ (∀ x ∈ us', InSp p R ws x) ∧ us.length = us'.length + 1 ∧ (∀ v, InSp p R (u :: us') v → InSp p R us v) ∧ (∀ x ∈ us, InSp p R (u :: us') x) ∧ InSp p R (w :: ws) u ∧ ¬ InSp p R ws u
 | [], _, _ => .inl fun u hu => by cases hu
 | h :: t, ⟨hi, ht⟩, hs => by
  have hh := hs h (by simp)
  rcases Yx8 hf ht (fun x hx => hs x (by simp [hx])) with h1 | ⟨t', u, hi', hs', hl, hto, hfro, huw, hun⟩
  ·by_cases h2 : InSp p R ws h
   ·exact .inl fun x hx => by
     rcases List.mem_cons.1 hx with rfl | hx
     ·exact h2
     ·exact h1 x hx
   ·exact .inr ⟨t, h, ht, h1, rfl, fun v hv => hv, fun x hx => J2_ hx, hh, h2⟩
  ·right
   have hw : InSp p R (u :: ws) w := Xo5 hf huw hun
   have hhu : InSp p R (u :: ws) h := A9_ (fun x hx => by
    rcases List.mem_cons.1 hx with rfl | hx
    ·exact hw
    ·exact sp_up (J2_ hx)) hh
   obtain ⟨c, hc⟩ := hhu
   have hut : InSp p R t u := hto u (Zs2 t' u)
   refine ⟨(fun r => h r - c * u r) :: t', u, ⟨fun hb => hi ?_, hi'⟩, ?_, by simp [hl], ?_, ?_, huw, hun⟩
   ·have h3 : InSp p R t fun r => h r - c * u r := hto _ (sp_up hb)
    exact J4_ (Zy3 h3 (O5_ c hut)) fun r _ => by omega
   ·intro x hx
    rcases List.mem_cons.1 hx with rfl | hx
    ·exact hc
    ·exact hs' x hx
   ·intro v hv
    refine A9_ (fun x hx => ?_) hv
    rcases List.mem_cons.1 hx with rfl | hx
    ·exact sp_up hut
    ·rcases List.mem_cons.1 hx with rfl | hx
     ·exact Yx7 (Zs2 t h) (O5_ c (sp_up hut))
     ·exact sp_up (hto x (J2_ (by simp [hx])))
   ·intro x hx
    have hmem : ∀ y, InSp p R (u :: t') y → InSp p R (u :: (fun r => h r - c * u r) :: t') y := fun y hy => sp_mono (fun z hz => by
     rcases List.mem_cons.1 hz with rfl | hz
     ·simp
     ·simp [hz]) hy
    rcases List.mem_cons.1 hx with rfl | hx
    ·exact J4_ (Zy3 (J2_ (us := u :: (fun r => x r - c * u r) :: t') (u := fun r => x r - c * u r) (by simp)) (O5_ c (J2_ (u := u) (by simp)))) fun r _ => by omega
    ·exact hmem x (hfro x hx)
theorem Yx9 (hf : Fld p) : ∀ {ws us : List Vec}, Ind p R us → (∀ u ∈ us, InSp p R ws u) → us.length ≤ ws.length
 | [], us, hi, hs => by
  cases us with
  | nil => exact le_refl _
  | cons u us =>
   refine absurd ?_ hi.1
   exact A9_ (fun x hx => by cases hx) (hs u (by simp))
 | w :: ws, us, hi, hs => by
  rcases Yx8 hf hi hs with h | ⟨us', u, hi', hs', hl, _⟩
  ·have := Yx9 hf hi h
   simp
   omega
  ·have := Yx9 hf hi' hs'
   simp
   omega
open Classical in
noncomputable def bs (p : Int) (R : Nat) : List Vec → List Vec
 | [] => []
 | u :: us => if InSp p R us u then bs p R us else u :: bs p R us
theorem Yv0 : ∀ {us : List Vec}, ∀ x ∈ bs p R us, x ∈ us
 | u :: us, x, h => by
  unfold bs at h
  split at h
  ·simp [Yv0 x h]
  ·rcases List.mem_cons.1 h with rfl | h
   ·simp
   ·simp [Yv0 x h]
theorem Zy4 : ∀ {us : List Vec} {v : Vec}, InSp p R us v → InSp p R (bs p R us) v
 | [], _, h => h
 | u :: us, v, h => by
  unfold bs
  split
  ·rename_i hu
   refine A9_ (fun x hx => ?_) h
   rcases List.mem_cons.1 hx with rfl | hx
   ·exact Zy4 hu
   ·exact Zy4 (J2_ hx)
  ·obtain ⟨c, h⟩ := h
   exact ⟨c, Zy4 h⟩
theorem Ym6 : ∀ {us : List Vec}, Ind p R (bs p R us)
 | [] => trivial
 | u :: us => by
  unfold bs
  split
  ·exact Ym6
  ·rename_i hu
   exact ⟨fun h => hu (sp_mono Yv0 h), Ym6⟩
noncomputable def rk (p : Int) (R : Nat) (us : List Vec) : Nat := (bs p R us).length
theorem rk_le (hf : Fld p) {us ws : List Vec} (h : ∀ u ∈ us, InSp p R ws u) : rk p R us ≤ rk p R ws :=
 Yx9 hf Ym6 fun u hu => Zy4 (h u (Yv0 u hu))
theorem rk_eq (hf : Fld p) {us ws : List Vec} (h : ∀ u ∈ us, InSp p R ws u) (k : ∀ w ∈ ws, InSp p R us w) : rk p R us = rk p R ws :=
 Nat.le_antisymm (rk_le hf h) (rk_le hf k)
theorem rk_nil : rk p R [] = 0 := rfl
theorem rk_cons_in {us : List Vec} {u : Vec} (h : InSp p R us u) : rk p R (u :: us) = rk p R us := by
 unfold rk
 rw [show bs p R (u :: us) = bs p R us from if_pos h]
theorem rk_cons_out {us : List Vec} {u : Vec} (h : ¬ InSp p R us u) : rk p R (u :: us) = rk p R us + 1 := by
 unfold rk
 rw [show bs p R (u :: us) = u :: bs p R us from if_neg h]
 rfl
theorem Xh6 : ∀ {us : List Vec}, rk p R us ≤ us.length
 | [] => le_refl _
 | u :: us => by
  have := Xh6 (us := us)
  by_cases h : InSp p R us u
  ·rw [rk_cons_in h]; simp; omega
  ·rw [rk_cons_out h]; simp; omega
theorem rk_perm (hf : Fld p) {us ws : List Vec} (h : ∀ x, x ∈ us ↔ x ∈ ws) : rk p R us = rk p R ws :=
 rk_eq hf (fun u hu => J2_ ((h u).1 hu)) (fun w hw => J2_ ((h w).2 hw))
theorem Yc3 (hf : Fld p) {us : List Vec} {u : Vec} (h : InSp p R us u) : rk p R (us ++ [u]) = rk p R us := by
 rw [← rk_cons_in h]
 exact rk_perm hf fun x => by simp [or_comm]
theorem Zs3 (hf : Fld p) {us : List Vec} {u : Vec} (h : ¬ InSp p R us u) : rk p R (us ++ [u]) = rk p R us + 1 := by
 rw [← rk_cons_out h]
 exact rk_perm hf fun x => by simp [or_comm]
def lin : List Int → List Vec → Vec
 | c :: cs, u :: us => fun r => c * u r + lin cs us r
 | _, _ => fun _ => 0
theorem Xh7 : ∀ (cs : List Int) (us : List Vec), InSp p R us (lin cs us)
 | [], us => by cases us <;> exact R7_
 | c :: cs, [] => R7_
 | c :: cs, u :: us => ⟨c, J4_ (Xh7 cs us) fun r _ => by simp only [lin]; omega⟩
theorem Yc4 {us : List Vec} {u : Vec} {k : Nat} (hk : k < R) (hu : ¬ p ∣ u k) (hz : ∀ x ∈ us, p ∣ x k) : ¬ InSp p R us u := by
 have key : ∀ {us : List Vec} {v : Vec}, (∀ x ∈ us, p ∣ x k) → InSp p R us v → p ∣ v k := by
  intro us
  induction us with
  | nil => intro v _ h; exact h k hk
  | cons x us ih =>
   intro v hz ⟨c, h⟩
   have h1 := ih (fun y hy => hz y (by simp [hy])) h
   have h2 := Int.dvd_add h1 (Int.dvd_trans (hz x (by simp)) (Int.dvd_mul_left c _))
   rwa [show v k - c * x k + c * x k = v k by omega] at h2
 exact fun h => hu (key hz h)
end Go.Proofs.YtgadbnbhgpehjaaGreatDoor.Wp.L
namespace Go.Proofs.YtgadbnbhgpehjaaGreatDoor.Wp.L
structure Line where
 place : Nat
 left : List Int
 lead : Nat
 inv : Int
 by_ : Nat → Int
def H3_ : List Int → Nat → Int
 | [], _ => -1
 | x :: xs, k => if x = 0 then H3_ xs (k + 1) else (k : Int)
def leadI (l : List Int) : Int := H3_ l 0
theorem T6_ : ∀ {l : List Int} {a i : Nat}, i < l.length → l.getD i 0 ≠ 0 → (∀ j, j < i → l.getD j 0 = 0) → H3_ l a = ((a + i : Nat) : Int)
 | x :: xs, a, 0, _, hx, _ => by
  unfold H3_
  rw [if_neg (by simpa using hx)]
  rfl
 | x :: xs, a, i + 1, hi, hx, hz => by
  unfold H3_
  rw [if_pos (by simpa using hz 0 (by omega)), T6_ (i := i) (by simpa using hi) (by simpa using hx) (fun j hj => by simpa using hz (j + 1) (by omega))]
  congr 1
  omega
theorem O6_ : ∀ {l : List Int} {a : Nat}, (∀ j, j < l.length → l.getD j 0 = 0) → H3_ l a = -1
 | [], _, _ => rfl
 | x :: xs, a, hz => by
  unfold H3_
  rw [if_pos (by simpa using hz 0 (by simp)), O6_ (fun j hj => by simpa using hz (j + 1) (by simpa using hj))]
theorem Zk1 {l : List Int} {i : Nat} (hi : i < l.length) (hx : l.getD i 0 ≠ 0) (hz : ∀ j, j < i → l.getD j 0 = 0) : leadI l = (i : Int) := by
 unfold leadI
 rw [T6_ hi hx hz]
 congr 1
 omega
theorem R8_ {l : List Int} (hz : ∀ j, j < l.length → l.getD j 0 = 0) : leadI l = -1 := O6_ hz
theorem M6_ : ∀ (l : List Int), (leadI l = -1 ∧ ∀ j, l.getD j 0 = 0) ∨ ∃ i, i < l.length ∧ leadI l = (i : Int) ∧ l.getD i 0 ≠ 0 ∧ ∀ j, j < i → l.getD j 0 = 0 := by
 intro l
 by_cases h : ∀ j, j < l.length → l.getD j 0 = 0
 ·refine .inl ⟨R8_ h, fun j => ?_⟩
  by_cases hj : j < l.length
  ·exact h j hj
  ·simp [List.getD, List.getElem?_eq_none (Nat.le_of_not_lt hj)]
 ·right
  have : ∃ i, i < l.length ∧ l.getD i 0 ≠ 0 ∧ ∀ j, j < i → l.getD j 0 = 0 := by
   apply Classical.byContradiction
   intro hn
   apply h
   intro j
   induction j using Nat.strongRecOn with
   | ind j ih =>
    intro hj
    apply Classical.byContradiction
    intro hne
    exact hn ⟨j, hj, hne, fun k hk => ih k hk (by omega)⟩
  obtain ⟨i, hi, hx, hz⟩ := this
  exact ⟨i, hi, Zk1 hi hx hz, hx, hz⟩
def upd (f : Nat → Int) (a : Nat) (t : Int) : Nat → Int := fun x => if x = a then t else f x
def subU (p : Int) (left : List Int) (l : Line) (t : Int) (k : Nat) : List Int :=
 (List.range left.length).map fun r => if l.lead ≤ r ∧ r < k then (left.getD r 0 - t * l.left.getD r 0) % p else left.getD r 0
def tOf (p : Int) (left : List Int) (l : Line) : Int := (left.getD l.lead 0 * l.inv) % p
def stepT (p : Int) (s : List Int × (Nat → Int)) (l : Line) : List Int × (Nat → Int) :=
 if tOf p s.1 l = 0 then s else (subU p s.1 l (tOf p s.1 l) s.1.length, upd s.2 l.place (tOf p s.1 l))
def takeT (p : Int) (ls : List Line) (col : List Int) : List Int × (Nat → Int) := ls.foldl (stepT p) (col, fun _ => 0)
def addL (p : Int) (inv : Int → Int) (ls : List Line) (i : Nat) (col : List Int) : List Line :=
 if leadI (takeT p ls col).1 < 0 then ls
 else ls ++ [⟨i, (takeT p ls col).1, (leadI (takeT p ls col).1).toNat, inv ((takeT p ls col).1.getD (leadI (takeT p ls col).1).toNat 0), (takeT p ls col).2⟩]
def L9_ (p : Int) (inv : Int → Int) (cols : List (List Int)) : Nat → List Line
 | 0 => []
 | k + 1 => addL p inv (L9_ p inv cols k) k (cols.getD k [])
theorem M0_ {n r : Nat} (f : Nat → Int) : ((List.range n).map f).getD r 0 = if r < n then f r else 0 := by
 by_cases h : r < n
 ·simp [List.getD, h]
 ·simp [List.getD, h]
theorem Q1_ {p : Int} {left : List Int} {l : Line} {t : Int} {k : Nat} : (subU p left l t k).length = left.length := by simp [subU]
theorem I8_ {p : Int} {left : List Int} {l : Line} {t : Int} {k r : Nat} (h : r < left.length) :
  (subU p left l t k).getD r 0 = if l.lead ≤ r ∧ r < k then (left.getD r 0 - t * l.left.getD r 0) % p else left.getD r 0 := by
 unfold subU
 rw [M0_, if_pos h]
theorem Ze6 {l : List Int} {r : Nat} (h : l.length ≤ r) : l.getD r 0 = 0 := by simp [List.getD, List.getElem?_eq_none h]
def InR (p : Int) (R : Nat) (l : List Int) : Prop := l.length = R ∧ ∀ x ∈ l, 0 ≤ x ∧ x < p
theorem InR.get {p : Int} {R : Nat} {l : List Int} (h : InR p R l) (hp : 0 < p) (r : Nat) : 0 ≤ l.getD r 0 ∧ l.getD r 0 < p := by
 by_cases hr : r < l.length
 ·rw [List.getD_eq_getElem?_getD, List.getElem?_eq_getElem hr]
  exact h.2 _ (List.getElem_mem hr)
 ·rw [Ze6 (by omega)]
  omega
theorem Za6 {p : Int} {R : Nat} {l : List Int} (hl : l.length = R) (h : ∀ r, r < R → 0 ≤ l.getD r 0 ∧ l.getD r 0 < p) : InR p R l := by
 refine ⟨hl, fun x hx => ?_⟩
 obtain ⟨i, hi, rfl⟩ := List.mem_iff_getElem.1 hx
 have := h i (by omega)
 rwa [List.getD_eq_getElem?_getD, List.getElem?_eq_getElem hi] at this
theorem M7_ {p x : Int} (h : p ∣ x) (h0 : 0 ≤ x) (h1 : x < p) : x = 0 := by
 have := Int.emod_eq_of_lt h0 h1
 rw [Int.emod_eq_zero_of_dvd h] at this
 exact this.symm
theorem A2_ {p : Int} (x : Int) : p ∣ x - x % p := Int.dvd_self_sub_emod
def vec (l : List Int) : Vec := fun r => l.getD r 0
structure LineOk (p : Int) (R : Nat) (l : Line) : Prop where
 row : InR p R l.left
 lt : l.lead < R
 zero : ∀ r, r < l.lead → l.left.getD r 0 = 0
 inv : p ∣ l.left.getD l.lead 0 * l.inv - 1
 invr : 0 ≤ l.inv ∧ l.inv < p
 byr : ∀ x, 0 ≤ l.by_ x ∧ l.by_ x < p
 byp : ∀ x, l.by_ x ≠ 0 → x < l.place
def Ech (p : Int) (R : Nat) : List Line → Prop
 | [] => True
 | l :: ls => LineOk p R l ∧ (∀ m ∈ ls, m.left.getD l.lead 0 = 0 ∧ l.place < m.place) ∧ Ech p R ls
structure Taken (p : Int) (R : Nat) (ls : List Line) (left : List Int) (f : Nat → Int) (s : List Int × (Nat → Int)) : Prop where
 row : InR p R s.1
 byr : ∀ x, 0 ≤ s.2 x ∧ s.2 x < p
 off : ∀ x, (∀ l ∈ ls, l.place ≠ x) → s.2 x = f x
 keep : ∀ r, (∀ l ∈ ls, l.left.getD r 0 = 0) → s.1.getD r 0 = left.getD r 0
 zero : ∀ l ∈ ls, s.1.getD l.lead 0 = 0
 sum : ∀ r, r < R → p ∣ left.getD r 0 - s.1.getD r 0 - lin (ls.map fun l => s.2 l.place) (ls.map fun l => vec l.left) r
theorem taken {p : Int} {R : Nat} (hp : 0 < p) : ∀ {ls : List Line} {left : List Int} {f : Nat → Int}, Ech p R ls → InR p R left → (∀ x, 0 ≤ f x ∧ f x < p) → (∀ l ∈ ls, f l.place = 0) → Taken p R ls left f (ls.foldl (stepT p) (left, f))
 | [], left, f, _, hl, hf, _ => ⟨hl, hf, fun _ _ => rfl, fun _ _ => rfl, fun _ h => (by cases h), fun r _ => (by simp [lin])⟩
 | l :: ls, left, f, ⟨hok, hbeh, hech⟩, hl, hf, hz => by
  rw [List.foldl_cons]
  have hpl : ∀ m ∈ ls, m.place ≠ l.place := fun m hm e => by have := (hbeh m hm).2; omega
  have hz' : ∀ m ∈ ls, f m.place = 0 := fun m hm => hz m (by simp [hm])
  by_cases ht : tOf p left l = 0
  ·have hs : stepT p (left, f) l = (left, f) := by unfold stepT; rw [if_pos ht]
   rw [hs]
   have ih := taken hp hech hl hf hz'
   have h0 : left.getD l.lead 0 = 0 := by
    have hg := hl.get hp l.lead
    refine M7_ ?_ hg.1 hg.2
    have h1 : p ∣ left.getD l.lead 0 * l.inv := Int.dvd_of_emod_eq_zero ht
    have h2 := Int.dvd_trans hok.inv (Int.dvd_mul_left (left.getD l.lead 0) _)
    have h3 := Int.dvd_trans h1 (Int.dvd_mul_right _ (l.left.getD l.lead 0))
    have h4 := Int.dvd_sub h3 h2
    have e : left.getD l.lead 0 * l.inv * l.left.getD l.lead 0 - left.getD l.lead 0 * (l.left.getD l.lead 0 * l.inv - 1) = left.getD l.lead 0 := by
     rw [Int.mul_sub, Int.mul_one, Int.mul_assoc, Int.mul_comm l.inv]
     omega
    rwa [e] at h4
   refine ⟨ih.row, ih.byr, fun x hx => ih.off x fun m hm => hx m (by simp [hm]), fun r hr => ih.keep r fun m hm => hr m (by simp [hm]), fun m hm => ?_, fun r hr => ?_⟩
   ·rcases List.mem_cons.1 hm with rfl | hm
    ·rw [ih.keep _ fun k hk => (hbeh k hk).1]
     exact h0
    ·exact ih.zero m hm
   ·have := ih.sum r hr
    simp only [List.map_cons, lin]
    rw [ih.off l.place hpl, hz l (by simp), Int.zero_mul, Int.zero_add]
    exact this
  ·obtain ⟨t, hte⟩ : ∃ t, t = tOf p left l := ⟨_, rfl⟩
   have hs : stepT p (left, f) l = (subU p left l t left.length, upd f l.place t) := by unfold stepT; rw [if_neg ht, ← hte]
   rw [hs]
   have htr : 0 ≤ t ∧ t < p := by rw [hte]; exact ⟨Int.emod_nonneg _ (by omega), Int.emod_lt_of_pos _ hp⟩
   have hsub : ∀ r, r < R → (subU p left l t left.length).getD r 0 = (left.getD r 0 - t * l.left.getD r 0) % p := by
    intro r hr
    rw [I8_ (by rw [hl.1]; exact hr)]
    by_cases h : l.lead ≤ r
    ·rw [if_pos ⟨h, by rw [hl.1]; exact hr⟩]
    ·rw [if_neg (by omega), hok.zero r (by omega), Int.mul_zero, Int.sub_zero]
     have := hl.get hp r
     exact (Int.emod_eq_of_lt this.1 this.2).symm
   have hrow : InR p R (subU p left l t left.length) := Za6 (by rw [Q1_]; exact hl.1) fun r hr => by
    rw [hsub r hr]
    exact ⟨Int.emod_nonneg _ (by omega), Int.emod_lt_of_pos _ hp⟩
   have hkeep : ∀ r, l.left.getD r 0 = 0 → (subU p left l t left.length).getD r 0 = left.getD r 0 := by
    intro r h0
    by_cases hr : r < R
    ·rw [hsub r hr, h0, Int.mul_zero, Int.sub_zero]
     have := hl.get hp r
     exact Int.emod_eq_of_lt this.1 this.2
    ·rw [Ze6 (by rw [Q1_, hl.1]; omega), Ze6 (by rw [hl.1]; omega)]
   have hlead : (subU p left l t left.length).getD l.lead 0 = 0 := by
    rw [hsub _ hok.lt]
    apply Int.emod_eq_zero_of_dvd
    have h1 : p ∣ left.getD l.lead 0 * l.inv - t := by rw [hte]; exact A2_ _
    have h2 := Int.dvd_trans h1 (Int.dvd_mul_right _ (l.left.getD l.lead 0))
    have h3 := Int.dvd_trans hok.inv (Int.dvd_mul_left (left.getD l.lead 0) _)
    have h4 := Int.dvd_sub h2 h3
    have e : (left.getD l.lead 0 * l.inv - t) * l.left.getD l.lead 0 - left.getD l.lead 0 * (l.left.getD l.lead 0 * l.inv - 1) = left.getD l.lead 0 - t * l.left.getD l.lead 0 := by
     rw [Int.mul_sub, Int.mul_one, Int.sub_mul, Int.mul_assoc, Int.mul_comm l.inv]
     omega
    rwa [e] at h4
   have ih := taken hp (f := upd f l.place t) hech hrow (fun x => by
    unfold upd
    split
    ·exact htr
    ·exact hf x) (fun m hm => by
    unfold upd
    rw [if_neg (hpl m hm)]
    exact hz' m hm)
   refine ⟨ih.row, ih.byr, fun x hx => ?_, fun r hr => ?_, fun m hm => ?_, fun r hr => ?_⟩
   ·rw [ih.off x fun m hm => hx m (by simp [hm])]
    unfold upd
    rw [if_neg fun e => hx l (by simp) e.symm]
   ·rw [ih.keep r fun m hm => hr m (by simp [hm])]
    exact hkeep r (hr l (by simp))
   ·rcases List.mem_cons.1 hm with rfl | hm
    ·rw [ih.keep _ fun k hk => (hbeh k hk).1]
     exact hlead
    ·exact ih.zero m hm
   ·have h1 := ih.sum r hr
    simp only [List.map_cons, lin]
    rw [ih.off l.place hpl, show upd f l.place t l.place = t by unfold upd; rw [if_pos rfl]]
    have h2 : p ∣ left.getD r 0 - t * l.left.getD r 0 - (subU p left l t left.length).getD r 0 := by rw [hsub r hr]; exact A2_ _
    have h3 := Int.dvd_add h1 h2
    generalize lin (ls.map fun l_1 => _) _ r = y at h3 ⊢
    unfold vec
    have e : (subU p left l t left.length).getD r 0 - ((ls.foldl (stepT p) (subU p left l t left.length, upd f l.place t)).1).getD r 0 - y + (left.getD r 0 - t * l.left.getD r 0 - (subU p left l t left.length).getD r 0)
      = left.getD r 0 - ((ls.foldl (stepT p) (subU p left l t left.length, upd f l.place t)).1).getD r 0 - (t * l.left.getD r 0 + y) := by omega
    rwa [e] at h3
end Go.Proofs.YtgadbnbhgpehjaaGreatDoor.Wp.L
namespace Go.Proofs.YtgadbnbhgpehjaaGreatDoor.Wp.L
variable {p : Int} {R : Nat}
theorem Yv1 : ∀ {ls : List Line} {l : Line}, Ech p R ls → LineOk p R l → (∀ m ∈ ls, l.left.getD m.lead 0 = 0 ∧ m.place < l.place) → Ech p R (ls ++ [l])
 | [], l, _, hl, _ => ⟨hl, fun _ h => (by cases h), trivial⟩
 | m :: ls, l, ⟨hm, hb, he⟩, hl, h => by
  refine ⟨hm, fun x hx => ?_, Yv1 he hl fun x hx => h x (by simp [hx])⟩
  rcases List.mem_append.1 hx with hx | hx
  ·exact hb x hx
  ·obtain rfl := List.mem_singleton.1 hx
   exact h m (by simp)
theorem Xh8 : ∀ {ls : List Line}, Ech p R ls → ∀ l ∈ ls, LineOk p R l
 | m :: ls, ⟨hm, _, he⟩, l, hl => by
  rcases List.mem_cons.1 hl with rfl | hl
  ·exact hm
  ·exact Xh8 he l hl
theorem Yv2 : ∀ {ls : List Line} {v : Vec}, Ech p R ls → InSp p R (ls.map fun l => vec l.left) v → (∀ l ∈ ls, p ∣ v l.lead) → ∀ r, r < R → p ∣ v r
 | [], v, _, h, _ => h
 | l :: ls, v, ⟨hok, hb, he⟩, ⟨c, h⟩, hz => by
  have key : ∀ {us : List Line} {w : Vec}, (∀ m ∈ us, m.left.getD l.lead 0 = 0) → InSp p R (us.map fun l => vec l.left) w → p ∣ w l.lead := by
   intro us
   induction us with
   | nil => intro w _ h; exact h _ hok.lt
   | cons x us ih =>
    intro w hz ⟨d, h⟩
    have h1 : p ∣ w l.lead - d * vec x.left l.lead := ih (fun m hm => hz m (by simp [hm])) h
    have h2 : vec x.left l.lead = 0 := hz x (by simp)
    rwa [h2, Int.mul_zero, Int.sub_zero] at h1
  have h1 : p ∣ v l.lead - c * vec l.left l.lead := key (fun m hm => (hb m hm).1) h
  have h2 := hz l (by simp)
  have h3 : p ∣ c * vec l.left l.lead := by
   have := Int.dvd_sub h2 h1
   rwa [show v l.lead - (v l.lead - c * vec l.left l.lead) = c * vec l.left l.lead by omega] at this
  have hc : p ∣ c := by
   have h4 := Int.dvd_trans h3 (Int.dvd_mul_right _ l.inv)
   have h5 := Int.dvd_trans hok.inv (Int.dvd_mul_left c _)
   have h6 := Int.dvd_sub h4 h5
   unfold vec at h6
   have e : c * l.left.getD l.lead 0 * l.inv - c * (l.left.getD l.lead 0 * l.inv - 1) = c := by
    rw [Int.mul_sub, Int.mul_one, Int.mul_assoc]
    omega
   rwa [e] at h6
  have hcr : ∀ r, p ∣ c * vec l.left r := fun r => Int.dvd_trans hc (Int.dvd_mul_right c _)
  have ih := Yv2 he h fun m hm => Int.dvd_sub (hz m (by simp [hm])) (hcr _)
  intro r hr
  have := Int.dvd_add (ih r hr) (hcr r)
  rwa [show v r - c * vec l.left r + c * vec l.left r = v r by omega] at this
def colV (cols : List (List Int)) (i : Nat) : Vec := vec (cols.getD i [])
def D5_ (cols : List (List Int)) (k : Nat) : List Vec := (List.range k).map (colV cols)
theorem H4_ (cols : List (List Int)) (k : Nat) : D5_ cols (k + 1) = D5_ cols k ++ [colV cols k] := by simp [D5_, List.range_succ]
def InB (p : Int) (R : Nat) (cols : List (List Int)) (i : Nat) : Prop := ¬ InSp p R (D5_ cols i) (colV cols i)
open Classical in
noncomputable def basN (p : Int) (R : Nat) (cols : List (List Int)) (k : Nat) : List Nat := (List.range k).filter fun i => decide (InB p R cols i)
theorem Ym7 {cols : List (List Int)} {k : Nat} (h : InB p R cols k) : basN p R cols (k + 1) = basN p R cols k ++ [k] := by
 unfold basN
 rw [List.range_succ, List.filter_append]
 simp [h]
theorem Yv3 {cols : List (List Int)} {k : Nat} (h : ¬ InB p R cols k) : basN p R cols (k + 1) = basN p R cols k := by
 unfold basN
 rw [List.range_succ, List.filter_append]
 simp [h]
theorem basN_mem {cols : List (List Int)} {k i : Nat} : i ∈ basN p R cols k ↔ i < k ∧ InB p R cols i := by
 unfold basN
 simp [List.mem_filter]
structure Lines (p : Int) (R : Nat) (cols : List (List Int)) (k : Nat) (ls : List Line) : Prop where
 ech : Ech p R ls
 pl : ls.map Line.place = basN p R cols k
 span : ∀ v, InSp p R (ls.map fun l => vec l.left) v ↔ InSp p R (D5_ cols k) v
 from_ : ∀ (a : List Line) (l : Line) (b : List Line), ls = a ++ l :: b →
  (∀ r, r < R → p ∣ colV cols l.place r - l.left.getD r 0 - lin (a.map fun m => l.by_ m.place) (a.map fun m => vec m.left) r) ∧ ∀ x, l.by_ x ≠ 0 → ∃ m ∈ a, m.place = x
theorem Lines.lt {cols : List (List Int)} {k : Nat} {ls : List Line} (h : Lines p R cols k ls) {l : Line} (hl : l ∈ ls) : l.place < k := by
 have : l.place ∈ basN p R cols k := by rw [← h.pl]; exact List.mem_map.2 ⟨l, hl, rfl⟩
 exact (basN_mem.1 this).1
theorem Lines.take (hp : 0 < p) {cols : List (List Int)} {k : Nat} {ls : List Line} (h : Lines p R cols k ls) {col : List Int} (hc : InR p R col) : Taken p R ls col (fun _ => 0) (takeT p ls col) :=
 taken hp h.ech hc (fun _ => ⟨by omega, hp⟩) fun _ _ => rfl
theorem Lines.left (hp : 0 < p) {cols : List (List Int)} {k : Nat} {ls : List Line} (h : Lines p R cols k ls) {col : List Int} (hc : InR p R col) : InSp p R (D5_ cols k) fun r => col.getD r 0 - (takeT p ls col).1.getD r 0 := by
 rw [← h.span]
 refine O4_ (Xh7 (ls.map fun l => (takeT p ls col).2 l.place) _) fun r hr => ?_
 have := (h.take hp hc).sum r hr
 rw [show lin (ls.map fun l => (takeT p ls col).2 l.place) (ls.map fun l => vec l.left) r - (col.getD r 0 - (takeT p ls col).1.getD r 0) = -(col.getD r 0 - (takeT p ls col).1.getD r 0 - lin (ls.map fun l => (takeT p ls col).2 l.place) (ls.map fun l => vec l.left) r) by omega]
 exact (Int.dvd_neg).2 this
theorem Lines.in_iff (hp : 0 < p) {cols : List (List Int)} {k : Nat} {ls : List Line} (h : Lines p R cols k ls) {col : List Int} (hc : InR p R col) : InSp p R (D5_ cols k) (vec col) ↔ leadI (takeT p ls col).1 < 0 := by
 have ht := h.take hp hc
 have hl := h.left hp hc
 constructor
 ·intro hin
  have h1 : InSp p R (ls.map fun l => vec l.left) (vec (takeT p ls col).1) := by
   rw [h.span]
   exact J4_ (Yx7 hin hl) fun r _ => by unfold vec; omega
  have h2 := Yv2 h.ech h1 fun l hl => by
   unfold vec
   rw [ht.zero l hl]
   exact Int.dvd_zero p
  have h3 : leadI (takeT p ls col).1 = -1 := R8_ fun j hj => by
   have hg := ht.row.get hp j
   exact M7_ (h2 j (by rw [← ht.row.1]; exact hj)) hg.1 hg.2
  rw [h3]
  decide
 ·intro hneg
  rcases M6_ (takeT p ls col).1 with ⟨_, hz⟩ | ⟨i, _, hi, _⟩
  ·refine J4_ hl fun r _ => ?_
   rw [hz r]
   unfold vec
   omega
  ·rw [hi] at hneg
   omega
theorem Lines.next (hp : 0 < p) {inv : Int → Int} (hinv : ∀ x, 0 < x → x < p → p ∣ x * inv x - 1 ∧ 0 ≤ inv x ∧ inv x < p) {cols : List (List Int)} {k : Nat} {ls : List Line} (h : Lines p R cols k ls) (hc : InR p R (cols.getD k [])) : Lines p R cols (k + 1) (addL p inv ls k (cols.getD k [])) := by
 have ht := h.take hp hc
 have hl := h.left hp hc
 have hiff := h.in_iff hp hc
 unfold addL
 by_cases hneg : leadI (takeT p ls (cols.getD k [])).1 < 0
 ·rw [if_pos hneg]
  have hin : InSp p R (D5_ cols k) (colV cols k) := hiff.2 hneg
  refine ⟨h.ech, by rw [Yv3 (fun hn => hn hin)]; exact h.pl, fun v => ?_, h.from_⟩
  rw [h.span, H4_]
  exact ⟨sp_mono fun x hx => List.mem_append.2 (.inl hx), A9_ fun x hx => by
   rcases List.mem_append.1 hx with hx | hx
   ·exact J2_ hx
   ·obtain rfl := List.mem_singleton.1 hx
    exact hin⟩
 ·rw [if_neg hneg]
  have hout : InB p R cols k := fun hin => hneg (hiff.1 hin)
  rcases M6_ (takeT p ls (cols.getD k [])).1 with ⟨hi, _⟩ | ⟨i, hil, hi, hx, hz⟩
  ·rw [hi] at hneg
   exact absurd (by decide) hneg
  rw [hi, Int.toNat_natCast]
  generalize hT : takeT p ls (cols.getD k []) = T at *
  have hiR : i < R := by rw [← ht.row.1]; exact hil
  have hg := ht.row.get hp i
  have hv := hinv (T.1.getD i 0) (by omega) hg.2
  have hby : ∀ x, T.2 x ≠ 0 → ∃ m ∈ ls, m.place = x := by
   intro x hx
   apply Classical.byContradiction
   intro hn
   exact hx (ht.off x fun l hl e => hn ⟨l, hl, e⟩)
  have hok : LineOk p R ⟨k, T.1, i, inv (T.1.getD i 0), T.2⟩ := ⟨ht.row, hiR, hz, hv.1, hv.2, ht.byr, fun x hx => by
   obtain ⟨m, hm, rfl⟩ := hby x hx
   exact h.lt hm⟩
  refine ⟨Yv1 h.ech hok fun m hm => ⟨ht.zero m hm, h.lt hm⟩, by rw [Ym7 hout, List.map_append, h.pl]; rfl, fun v => ?_, ?_⟩
  ·rw [H4_, List.map_append]
   have hlc : InSp p R (D5_ cols k ++ [colV cols k]) (vec T.1) := by
    refine J4_ (Yx7 (J2_ (u := colV cols k) (by simp)) (sp_mono (fun x hx => List.mem_append.2 (.inl hx)) hl)) fun r _ => ?_
    unfold colV vec
    omega
   have hcl : InSp p R (ls.map (fun l => vec l.left) ++ [vec T.1]) (colV cols k) := by
    refine J4_ (Zy3 (J2_ (u := vec T.1) (by simp)) (sp_mono (us := ls.map fun l => vec l.left) (fun x hx => List.mem_append.2 (.inl hx)) ((h.span _).2 hl))) fun r _ => ?_
    unfold colV vec
    omega
   constructor
   ·refine A9_ fun x hx => ?_
    rcases List.mem_append.1 hx with hx | hx
    ·exact sp_mono (fun y hy => List.mem_append.2 (.inl hy)) ((h.span _).1 (J2_ hx))
    ·obtain rfl := List.mem_singleton.1 hx
     exact hlc
   ·refine A9_ fun x hx => ?_
    rcases List.mem_append.1 hx with hx | hx
    ·exact sp_mono (fun y hy => List.mem_append.2 (.inl hy)) ((h.span _).2 (J2_ hx))
    ·obtain rfl := List.mem_singleton.1 hx
     exact hcl
  ·intro a l b e
   rcases List.eq_nil_or_concat b with rfl | ⟨b', z, rfl⟩
   ·obtain ⟨rfl, e2⟩ := List.append_inj' e (by simp)
    injection e2 with e2 _
    subst e2
    exact ⟨ht.sum, hby⟩
   ·rw [List.concat_eq_append, ← List.cons_append, ← List.append_assoc] at e
    obtain ⟨e1, _⟩ := List.append_inj' e (by simp)
    exact h.from_ a l b' e1
theorem Zy5 (hp : 0 < p) {inv : Int → Int} (hinv : ∀ x, 0 < x → x < p → p ∣ x * inv x - 1 ∧ 0 ≤ inv x ∧ inv x < p) {cols : List (List Int)} : ∀ {k : Nat}, (∀ i, i < k → InR p R (cols.getD i [])) → Lines p R cols k (L9_ p inv cols k)
 | 0, _ => ⟨trivial, rfl, fun _ => Iff.rfl, fun a l b e => by cases a <;> cases e⟩
 | k + 1, hc => (Zy5 hp hinv fun i hi => hc i (by omega)).next hp hinv (hc k (by omega))
end Go.Proofs.YtgadbnbhgpehjaaGreatDoor.Wp.L
namespace Go.Proofs.YtgadbnbhgpehjaaGreatDoor.Wp.L
variable {p : Int} {R : Nat}
structure Back (p : Int) (R : Nat) (cols : List (List Int)) (goal : List Int) (a b : List Line) (T : List Int) : Prop where
 len : T.length = cols.length
 rng : ∀ i, 0 ≤ T.getD i 0 ∧ T.getD i 0 < p
 off : ∀ x, (∀ l ∈ a ++ b, l.place ≠ x) → T.getD x 0 = 0
 sum : ∀ r, r < R → p ∣ goal.getD r 0 - lin (a.map fun l => T.getD l.place 0) (a.map fun l => vec l.left) r - lin (b.map fun l => T.getD l.place 0) (b.map fun l => colV cols l.place) r
def Zy6 (p : Int) (R : Nat) (cols : List (List Int)) : Prop := ∀ i, i < cols.length → InR p R (cols.getD i [])
theorem Yc5 (cols : List (List Int)) : D5_ cols cols.length = cols.map vec := by
 unfold D5_
 apply List.ext_getElem
 ·simp
 ·intro i h1 h2
  simp at h1
  simp [colV, List.getD, h1]
structure Told (p : Int) (R : Nat) (cols : List (List Int)) (goal T : List Int) : Prop where
 len : T.length = cols.length
 rng : ∀ i, 0 ≤ T.getD i 0 ∧ T.getD i 0 < p
 off : ∀ i, T.getD i 0 ≠ 0 → i ∈ basN p R cols cols.length
 sum : ∀ r, r < R → p ∣ goal.getD r 0 - lin T (cols.map vec) r
end Go.Proofs.YtgadbnbhgpehjaaGreatDoor.Wp.L
namespace Go.Proofs.YtgadbnbhgpehjaaGreatDoor.Wp.L
variable {p : Int} {R : Nat}
theorem Yv4 : ∀ {us : List Vec}, (∀ k (_ : k < us.length), ∃ q, q < R ∧ ¬ p ∣ us[k] q ∧ ∀ j (_ : j < us.length), k < j → p ∣ us[j] q) → Ind p R us
 | [], _ => trivial
 | u :: us, h => by
  refine ⟨?_, Yv4 fun k hk => ?_⟩
  ·obtain ⟨q, hq, h1, h2⟩ := h 0 (by simp)
   refine Yc4 hq h1 fun x hx => ?_
   obtain ⟨j, hj, rfl⟩ := List.mem_iff_getElem.1 hx
   exact h2 (j + 1) (by simp; omega) (by omega)
  ·obtain ⟨q, hq, h1, h2⟩ := h (k + 1) (by simp; omega)
   exact ⟨q, hq, h1, fun j hj hlt => h2 (j + 1) (by simp; omega) (by omega)⟩
theorem rk_ge (hf : Fld p) {us ws : List Vec} (hi : Ind p R us) (h : ∀ u ∈ us, InSp p R ws u) : us.length ≤ rk p R ws :=
 Yx9 hf hi fun u hu => Zy4 (h u hu)
theorem Xj4 (hf : Fld p) {m : List Vec} {n : Nat} (hn : n ≤ m.length) (hs : ∀ k (_ : k < m.length), k < n → ∃ q, q < R ∧ ¬ p ∣ m[k] q ∧ ∀ j (_ : j < m.length), k < j → p ∣ m[j] q)
  (hz : ∀ j (_ : j < m.length), n ≤ j → ∀ r, r < R → p ∣ m[j] r) : rk p R m = n := by
 have hl : (m.take n).length = n := by rw [List.length_take]; omega
 have hi : Ind p R (m.take n) := Yv4 fun k hk => by
  rw [hl] at hk
  obtain ⟨q, hq, h1, h2⟩ := hs k (by omega) hk
  refine ⟨q, hq, by rw [List.getElem_take]; exact h1, fun j hj hlt => ?_⟩
  rw [hl] at hj
  rw [List.getElem_take]
  exact h2 j (by omega) hlt
 have h1 := rk_ge hf (ws := m) hi fun u hu => J2_ (List.mem_of_mem_take hu)
 have h2 : rk p R m ≤ rk p R (m.take n) := rk_le hf fun u hu => by
  obtain ⟨j, hj, rfl⟩ := List.mem_iff_getElem.1 hu
  rcases Nat.lt_or_ge j n with h | h
  ·exact J2_ (List.mem_iff_getElem.2 ⟨j, by omega, List.getElem_take⟩)
  ·exact O4_ R7_ fun r hr => by
    rw [show (0 : Int) - m[j] r = -(m[j] r) by omega]
    exact (Int.dvd_neg).2 (hz j hj h r hr)
 have h3 := Xh6 (p := p) (R := R) (us := m.take n)
 omega
theorem Xo6 (hf : Fld p) {us ws : List Vec} (h : ∀ v, InSp p R us v ↔ InSp p R ws v) : rk p R us = rk p R ws :=
 rk_eq hf (fun u hu => (h u).1 (J2_ hu)) (fun w hw => (h w).2 (J2_ hw))
structure Steps (p : Int) (R : Nat) (cols m : List Vec) (n row : Nat) : Prop where
 len : m.length = cols.length
 le : n ≤ m.length
 span : ∀ v, InSp p R m v ↔ InSp p R cols v
 step : ∀ k (_ : k < m.length), k < n → ∃ q, q < row ∧ ¬ p ∣ m[k] q ∧ ∀ j (_ : j < m.length), k < j → p ∣ m[j] q
 zero : ∀ j (_ : j < m.length), n ≤ j → ∀ q, q < row → p ∣ m[j] q
theorem Steps.start (cols : List Vec) : Steps p R cols cols 0 0 := ⟨rfl, Nat.zero_le _, fun _ => Iff.rfl, fun _ _ h => by omega, fun _ _ _ _ h => by omega⟩
theorem Steps.rank (hf : Fld p) {cols m : List Vec} {n : Nat} (h : Steps p R cols m n R) : rk p R cols = n := by
 rw [← Xo6 hf h.span]
 exact Xj4 hf h.le h.step h.zero
theorem Steps.skip {cols m : List Vec} {n row : Nat} (h : Steps p R cols m n row) (hz : ∀ j (_ : j < m.length), n ≤ j → p ∣ m[j] row) : Steps p R cols m n (row + 1) where
 len := h.len
 le := h.le
 span := h.span
 step := fun k hk hlt => by
  obtain ⟨q, hq, h1, h2⟩ := h.step k hk hlt
  exact ⟨q, by omega, h1, h2⟩
 zero := fun j hj hn q hq => by
  by_cases e : q = row
  ·subst e; exact hz j hj hn
  ·exact h.zero j hj hn q (by omega)
theorem Steps.swap {cols m m' : List Vec} {n row a : Nat} (h : Steps p R cols m n row) (ha : a < m.length) (hna : n ≤ a) (hl : m'.length = m.length)
  (hm : ∀ j (h1 : j < m'.length) (h2 : j < m.length), m'[j] = if j = n then m[a] else if j = a then m[n]'(by omega) else m[j]) : Steps p R cols m' n row := by
 have hnl : n < m.length := by omega
 have hmem : ∀ x, x ∈ m' ↔ x ∈ m := by
  intro x
  constructor
  ·intro hx
   obtain ⟨j, hj, rfl⟩ := List.mem_iff_getElem.1 hx
   rw [hm j hj (by omega)]
   split
   ·exact List.getElem_mem _
   ·split <;> exact List.getElem_mem _
  ·intro hx
   obtain ⟨j, hj, rfl⟩ := List.mem_iff_getElem.1 hx
   by_cases e : j = n
   ·subst e
    have := hm a (by omega) ha
    by_cases e2 : a = j
    ·subst e2
     rw [if_pos rfl] at this
     rw [← this]
     exact List.getElem_mem _
    ·rw [if_neg e2, if_pos rfl] at this
     rw [← this]
     exact List.getElem_mem _
   ·by_cases e2 : j = a
    ·subst e2
     have := hm n (by omega) hnl
     rw [if_pos rfl] at this
     rw [← this]
     exact List.getElem_mem _
    ·have := hm j (by omega) hj
     rw [if_neg e, if_neg e2] at this
     rw [← this]
     exact List.getElem_mem _
 have hbig : ∀ j (h1 : j < m'.length), n ≤ j → ∃ i, ∃ (hi : i < m.length), n ≤ i ∧ m'[j] = m[i] := by
  intro j h1 h2
  have := hm j h1 (by omega)
  by_cases e : j = n
  ·rw [if_pos e] at this
   exact ⟨a, ha, hna, this⟩
  ·by_cases e2 : j = a
   ·rw [if_neg e, if_pos e2] at this
    exact ⟨n, hnl, le_refl _, this⟩
   ·rw [if_neg e, if_neg e2] at this
    exact ⟨j, by omega, h2, this⟩
 have hsmall : ∀ j (h1 : j < m'.length), j < n → m'[j] = m[j]'(by omega) := by
  intro j h1 h2
  rw [hm j h1 (by omega), if_neg (by omega), if_neg (by omega)]
 refine ⟨hl.trans h.len, by rw [hl]; exact h.le, fun v => ?_, fun k hk hlt => ?_, fun j hj hn q hq => ?_⟩
 ·rw [← h.span v]
  exact ⟨sp_mono fun x hx => (hmem x).1 hx, sp_mono fun x hx => (hmem x).2 hx⟩
 ·obtain ⟨q, hq, h1, h2⟩ := h.step k (by omega) hlt
  refine ⟨q, hq, by rw [hsmall k hk hlt]; exact h1, fun j hj hkj => ?_⟩
  by_cases hjn : j < n
  ·rw [hsmall j hj hjn]
   exact h2 j (by omega) hkj
  ·obtain ⟨i, hi, hni, e⟩ := hbig j hj (by omega)
   rw [e]
   exact h2 i hi (by omega)
 ·obtain ⟨i, hi, hni, e⟩ := hbig j hj hn
  rw [e]
  exact h.zero i hi hni q hq
theorem Steps.take {cols m m' : List Vec} {n row : Nat} (h : Steps p R cols m n row) (hn : n < m.length) (hl : m'.length = m.length) (hp : ¬ p ∣ m[n] row) (hrow : row < R)
  (hsame : ∀ j (h1 : j < m'.length) (h2 : j < m.length), j ≤ n → m'[j] = m[j])
  (hsub : ∀ j (h1 : j < m'.length) (h2 : j < m.length), n < j → p ∣ m'[j] row ∧ ∃ k : Int, ∀ r, r < R → p ∣ m'[j] r - (m[j] r - k * m[n] r)) : Steps p R cols m' (n + 1) (row + 1) := by
 have hq : ∀ {j q : Nat} (h1 : j < m'.length) (h2 : j < m.length), q < R → p ∣ m[j] q → p ∣ m[n] q → p ∣ m'[j] q := by
  intro j q h1 h2 hqR hz hzn
  by_cases hj : j ≤ n
  ·rw [hsame j h1 h2 hj]
   exact hz
  ·obtain ⟨_, k, hk⟩ := hsub j h1 h2 (by omega)
   have e := Int.dvd_add (hk q hqR) (Int.dvd_sub hz (Int.dvd_trans hzn (Int.dvd_mul_left k _)))
   rwa [show m'[j] q - (m[j] q - k * m[n] q) + (m[j] q - k * m[n] q) = m'[j] q by omega] at e
 refine ⟨hl.trans h.len, by omega, fun v => ?_, fun k hk hlt => ?_, fun j hj hnj q hqr => ?_⟩
 ·rw [← h.span v]
  constructor
  ·refine A9_ fun x hx => ?_
   obtain ⟨j, hj, rfl⟩ := List.mem_iff_getElem.1 hx
   by_cases hjn : j ≤ n
   ·rw [hsame j hj (by omega) hjn]
    exact J2_ (List.getElem_mem _)
   ·obtain ⟨_, k, hk⟩ := hsub j hj (by omega) (by omega)
    refine O4_ (Yx7 (J2_ (List.getElem_mem (show j < m.length by omega))) (O5_ k (J2_ (List.getElem_mem hn)))) fun r hr => ?_
    have := hk r hr
    rw [show m[j] r - k * m[n] r - m'[j] r = -(m'[j] r - (m[j] r - k * m[n] r)) by omega]
    exact (Int.dvd_neg).2 this
  ·have hmn : InSp p R m' m[n] := by
    rw [← hsame n (by omega) hn (le_refl _)]
    exact J2_ (List.getElem_mem _)
   refine A9_ fun x hx => ?_
   obtain ⟨j, hj, rfl⟩ := List.mem_iff_getElem.1 hx
   by_cases hjn : j ≤ n
   ·rw [← hsame j (by omega) hj hjn]
    exact J2_ (List.getElem_mem _)
   ·obtain ⟨_, k, hk⟩ := hsub j (by omega) hj (by omega)
    refine O4_ (Zy3 (J2_ (List.getElem_mem (show j < m'.length by omega))) (O5_ k hmn)) fun r hr => ?_
    have := hk r hr
    rwa [show m'[j] r + k * m[n] r - m[j] r = m'[j] r - (m[j] r - k * m[n] r) by omega]
 ·by_cases hkn : k = n
  ·subst hkn
   refine ⟨row, by omega, by rw [hsame k hk hn (le_refl _)]; exact hp, fun j hj hlt => (hsub j hj (by omega) hlt).1⟩
  ·obtain ⟨q, hqr, h1, h2⟩ := h.step k (by omega) (by omega)
   refine ⟨q, by omega, by rw [hsame k hk (by omega) (by omega)]; exact h1, fun j hj hkj => hq hj (by omega) (by omega) (h2 j (by omega) hkj) (h2 n hn (by omega))⟩
 ·by_cases e : q = row
  ·subst e
   exact (hsub j hj (by omega) (by omega)).1
  ·exact hq hj (by omega) (by omega) (h.zero j (by omega) (by omega) q (by omega)) (h.zero n hn (le_refl _) q (by omega))
end Go.Proofs.YtgadbnbhgpehjaaGreatDoor.Wp.L
namespace Go.Proofs.YtgadbnbhgpehjaaGreatDoor.Wp.L
variable {p : Int} {R : Nat}
theorem Zk2 (hf : Fld p) {cols : List (List Int)} {k : Nat} (h : InB p R cols k) : rk p R (D5_ cols (k + 1)) = rk p R (D5_ cols k) + 1 := by
 rw [H4_]
 exact Zs3 hf h
theorem Ze7 (hf : Fld p) {cols : List (List Int)} {k : Nat} (h : ¬ InB p R cols k) : rk p R (D5_ cols (k + 1)) = rk p R (D5_ cols k) := by
 rw [H4_]
 exact Yc3 hf (Classical.not_not.1 h)
theorem Zs4 (hf : Fld p) {cols : List (List Int)} : ∀ (k : Nat), rk p R (D5_ cols k) = (basN p R cols k).length
 | 0 => rfl
 | k + 1 => by
  by_cases h : InB p R cols k
  ·rw [Zk2 hf h, Ym7 h, Zs4 hf k]
   simp
  ·rw [Ze7 hf h, Yv3 h, Zs4 hf k]
theorem rk_cols (hf : Fld p) (cols : List (List Int)) : rk p R (cols.map vec) = (basN p R cols cols.length).length := by
 rw [← Yc5]
 exact Zs4 hf _
theorem Ym8 {cols : List (List Int)} {k : Nat} : (basN p R cols k).length ≤ k := by
 unfold basN
 have := List.length_filter_le (fun i => @decide (InB p R cols i) (Classical.propDecidable _)) (List.range k)
 simpa using this
end Go.Proofs.YtgadbnbhgpehjaaGreatDoor.Wp.L
namespace Go.Proofs.YtgadbnbhgpehjaaGreatDoor.Wp
def insP (P : Nat → Bool) (x : Nat) : Nat → Bool := fun i => i == x || P i
def orP (P Q : Nat → Bool) : Nat → Bool := fun i => P i || Q i
def andP (P Q : Nat → Bool) : Nat → Bool := fun i => P i && Q i
def notP (P : Nat → Bool) : Nat → Bool := fun i => !P i
def noneP : Nat → Bool := fun _ => false
def allP : Nat → Bool := fun _ => true
theorem Q2_ (P : Nat → Bool) (x : Nat) : insP P x x = true := by simp [insP]
theorem V7_ {P : Nat → Bool} {x i : Nat} (h : i ≠ x) : insP P x i = P i := by simp [insP, h]
theorem I9_ {P : Nat → Bool} {x : Nat} (h : P x = true) : insP P x = P := by
 funext i
 by_cases e : i = x
 ·rw [e, Q2_, h]
 ·exact V7_ e
theorem Zk3 (P : Nat → Bool) (x y : Nat) : insP (insP P x) y = insP (insP P y) x := by
 funext i
 simp only [insP]
 cases i == x <;> cases i == y <;> simp
structure Rk (n : Nat) (f : (Nat → Bool) → Nat) : Prop where
 ext : ∀ {P Q : Nat → Bool}, (∀ i, i < n → P i = Q i) → f P = f Q
 zero : f noneP = 0
 up : ∀ {P : Nat → Bool} {x : Nat}, x < n → P x = false → f P ≤ f (insP P x)
 one : ∀ {P : Nat → Bool} {x : Nat}, x < n → P x = false → f (insP P x) ≤ f P + 1
 dim : ∀ {P : Nat → Bool} {x y : Nat}, x < n → y < n → x ≠ y → P x = false → P y = false → f (insP (insP P x) y) + f P ≤ f (insP P x) + f (insP P y)
section
variable {n : Nat} {f : (Nat → Bool) → Nat}
theorem Rk.up' (h : Rk n f) (P : Nat → Bool) {x : Nat} (hx : x < n) : f P ≤ f (insP P x) := by
 cases hp : P x
 ·exact h.up hx hp
 ·rw [I9_ hp]; exact le_refl _
theorem Rk.one' (h : Rk n f) (P : Nat → Bool) {x : Nat} (hx : x < n) : f (insP P x) ≤ f P + 1 := by
 cases hp : P x
 ·exact h.one hx hp
 ·rw [I9_ hp]; exact Nat.le_succ _
theorem Rk.dim' (h : Rk n f) (P : Nat → Bool) {x y : Nat} (hx : x < n) (hy : y < n) (hxy : x ≠ y) : f (insP (insP P x) y) + f P ≤ f (insP P x) + f (insP P y) := by
 cases hp : P x
 ·cases hq : P y
  ·exact h.dim hx hy hxy hp hq
  ·have e : insP (insP P x) y = insP P x := I9_ (by rw [V7_ (fun e => hxy e.symm), hq])
   rw [e, I9_ hq]
   exact le_refl _
 ·rw [I9_ hp]
  omega
def addK (P S : Nat → Bool) (k : Nat) : Nat → Bool := fun i => P i || (decide (i < k) && S i)
theorem E6_ (P S : Nat → Bool) : addK P S 0 = P := by funext i; simp [addK]
theorem M8_ {P S : Nat → Bool} {k : Nat} (h : S k = false) : addK P S (k + 1) = addK P S k := by
 funext i
 by_cases e : i = k
 ·subst e; simp [addK, h]
 ·have : decide (i < k + 1) = decide (i < k) := decide_eq_decide.2 (by omega)
  simp [addK, this]
theorem H5_ {P S : Nat → Bool} {k : Nat} (h : S k = true) : addK P S (k + 1) = insP (addK P S k) k := by
 funext i
 by_cases e : i = k
 ·subst e; simp [addK, insP, h]
 ·have : decide (i < k + 1) = decide (i < k) := decide_eq_decide.2 (by omega)
  rw [V7_ e]
  simp [addK, this]
theorem E9_ (h : Rk n f) (P S : Nat → Bool) : f (addK P S n) = f (orP P S) := h.ext fun i hi => by simp [addK, orP, hi]
theorem Rk.up_add (h : Rk n f) (P S : Nat → Bool) : ∀ k, k ≤ n → f P ≤ f (addK P S k)
 | 0, _ => by rw [E6_]; exact le_refl _
 | k + 1, hk => by
  have ih := h.up_add P S k (by omega)
  cases hs : S k
  ·rw [M8_ hs]; exact ih
  ·rw [H5_ hs]; exact Nat.le_trans ih (h.up' _ (by omega))
theorem Rk.mono (h : Rk n f) {P Q : Nat → Bool} (hs : ∀ i, i < n → P i = true → Q i = true) : f P ≤ f Q := by
 have h1 := h.up_add P Q n (le_refl _)
 rw [E9_ h, h.ext (P := orP P Q) (Q := Q) (fun i hi => by
  unfold orP
  cases hp : P i
  ·simp
  ·simp [hs i hi hp])] at h1
 exact h1
theorem Rk.le_cnt (h : Rk n f) (P : Nat → Bool) : f P ≤ cnt P n := by
 have : ∀ k, k ≤ n → f (addK noneP P k) ≤ cnt P k := by
  intro k
  induction k with
  | zero => intro _; rw [E6_, h.zero]; exact Nat.zero_le _
  | succ k ih =>
   intro hk
   have ih := ih (by omega)
   rw [X3_]
   cases hs : P k
   ·rw [M8_ hs]; simpa using ih
   ·rw [H5_ hs]
    have := h.one' (addK noneP P k) (x := k) (by omega)
    simp
    omega
 have h1 := this n (le_refl _)
 rw [E9_ h] at h1
 rwa [show orP noneP P = P from by funext i; simp [orP, noneP]] at h1
theorem Rk.dim_add (h : Rk n f) (P S : Nat → Bool) {x : Nat} (hx : x < n) : ∀ k, k ≤ n → f (insP (addK P S k) x) + f P ≤ f (insP P x) + f (addK P S k)
 | 0, _ => by rw [E6_]; exact le_refl _
 | k + 1, hk => by
  have ih := h.dim_add P S hx k (by omega)
  cases hs : S k
  ·rw [M8_ hs]; exact ih
  ·rw [H5_ hs]
   by_cases e : x = k
   ·subst e
    have h1 : insP (insP (addK P S x) x) x = insP (addK P S x) x := I9_ (Q2_ _ _)
    rw [h1]
    have h2 := h.up' P (x := x) (by omega)
    omega
   ·have h1 := h.dim' (addK P S k) (x := k) (y := x) (by omega) hx (fun e' => e e'.symm)
    omega
theorem Rk.dim_set (h : Rk n f) {P Q : Nat → Bool} (hs : ∀ i, i < n → P i = true → Q i = true) {x : Nat} (hx : x < n) : f (insP Q x) + f P ≤ f (insP P x) + f Q := by
 have h1 := h.dim_add P Q hx n (le_refl _)
 have e : ∀ i, i < n → addK P Q n i = Q i := fun i hi => by
  simp only [addK, hi, decide_true, Bool.true_and]
  cases hp : P i
  ·simp
  ·simp [hs i hi hp]
 rw [h.ext e, h.ext (P := insP (addK P Q n) x) (Q := insP Q x) (fun i hi => by unfold insP; rw [e i hi])] at h1
 exact h1
theorem Rk.sub_add (h : Rk n f) {P Q : Nat → Bool} (hs : ∀ i, i < n → P i = true → Q i = true) (Z : Nat → Bool) : ∀ k, k ≤ n → f (addK Q Z k) + f P ≤ f (addK P Z k) + f Q
 | 0, _ => by rw [E6_, E6_]; omega
 | k + 1, hk => by
  have ih := h.sub_add hs Z k (by omega)
  cases hz : Z k
  ·rw [M8_ hz, M8_ hz]; exact ih
  ·rw [H5_ hz, H5_ hz]
   have h1 := h.dim_set (P := addK P Z k) (Q := addK Q Z k) (fun i hi hp => by
    unfold addK at hp ⊢
    cases hq : Q i
    ·have : P i = false := by
      cases hpi : P i
      ·rfl
      ·rw [hs i hi hpi] at hq; cases hq
     rw [this] at hp
     exact hp
    ·simp) (x := k) (by omega)
   omega
theorem Rk.submod (h : Rk n f) (P Q : Nat → Bool) : f (orP P Q) + f (andP P Q) ≤ f P + f Q := by
 have h1 := h.sub_add (P := andP P Q) (Q := P) (fun i _ hp => by unfold andP at hp; simp at hp; exact hp.1) Q n (le_refl _)
 rw [E9_ h, E9_ h] at h1
 rw [show orP (andP P Q) Q = Q from by funext i; simp only [orP, andP]; cases P i <;> cases Q i <;> rfl] at h1
 omega
theorem Rk.of_step (μ : (Nat → Bool) → Nat → Bool) (ext : ∀ {P Q : Nat → Bool}, (∀ i, i < n → P i = Q i) → f P = f Q) (zero : f noneP = 0)
  (step : ∀ {P : Nat → Bool} {x : Nat}, x < n → P x = false → f (insP P x) = f P + if μ P x then 1 else 0)
  (less : ∀ {P : Nat → Bool} {x y : Nat}, x < n → y < n → x ≠ y → P x = false → P y = false → μ (insP P x) y = true → μ P y = true) : Rk n f := by
 refine ⟨ext, zero, fun hx hp => ?_, fun hx hp => ?_, fun {P x y} hx hy hxy hp hq => ?_⟩
 ·rw [step hx hp]; exact Nat.le_add_right _ _
 ·rw [step hx hp]; split <;> omega
 ·rw [step (P := insP P x) hy (by rw [V7_ (fun e => hxy e.symm)]; exact hq), step (P := P) hy hq]
  cases h1 : μ (insP P x) y
  ·simp
  ·rw [less hx hy hxy hp hq h1]; simp; omega
theorem F8_ (n : Nat) : Rk n (fun P => cnt P n) := by
 refine Rk.of_step (fun _ _ => true) (fun {P Q} h => Nat.le_antisymm (W1_ fun v hv hp => by rw [← h v hv]; exact hp) (W1_ fun v hv hp => by rw [h v hv]; exact hp)) ?_ (fun {P x} hx hp => ?_) (fun _ _ _ _ _ _ => rfl)
 ·show cnt noneP n = 0
  have : ∀ n, cnt noneP n = 0 := fun n => by
   induction n with
   | zero => simp [cnt]
   | succ n ih => rw [X3_, ih]; simp [noneP]
  exact this n
 ·show cnt (insP P x) n = cnt P n + _
  rw [Zz9 (p := insP P x) (q := P) (Q2_ P x) hp (fun v hv => V7_ hv), if_pos hx, if_pos rfl]
theorem F0_ (n : Nat) : cnt noneP n = 0 := (F8_ n).zero
theorem K0_ {P Q : Nat → Bool} (h : ∀ i, i < n → P i = Q i) : cnt P n = cnt Q n := (F8_ n).ext h
theorem H6_ {P : Nat → Bool} {x : Nat} (hx : x < n) (hp : P x = false) : cnt (insP P x) n = cnt P n + 1 := by
 rw [Zz9 (p := insP P x) (q := P) (Q2_ P x) hp (fun v hv => V7_ hv), if_pos hx]
theorem Yv5 (h : Rk n f) (a : Nat) : Rk n (fun P => min a (f P)) := by
 refine ⟨fun h1 => by rw [h.ext h1], by rw [h.zero]; exact Nat.min_zero _, fun {P x} hx hp => ?_, fun {P x} hx hp => ?_, fun {P x y} hx hy hxy hp hq => ?_⟩
 ·have := h.up hx hp; omega
 ·have := h.one hx hp; omega
 ·have h1 := h.dim hx hy hxy hp hq
  have h2 := h.up hx hp
  have h3 := h.up hy hq
  have h4 := h.one hx hp
  have h5 := h.one hy hq
  have h6 := h.up (P := insP P x) hy (by rw [V7_ (fun e => hxy e.symm)]; exact hq)
  omega
theorem Yv6 (P : Nat → Bool) : ∀ n, cnt (notP P) n + cnt P n = n
 | 0 => by simp [cnt]
 | n + 1 => by
  have ih := Yv6 P n
  rw [X3_, X3_]
  show _ + (if (!P n) = true then 1 else 0) + _ = _
  cases hp : P n
  ·simp; omega
  ·simp; omega
theorem W2_ {P : Nat → Bool} {x : Nat} (hp : P x = false) : insP (notP (insP P x)) x = notP P := by
 funext i
 by_cases e : i = x
 ·subst e; rw [Q2_]; simp [notP, hp]
 ·rw [V7_ e]; simp [notP, V7_ e]
theorem Xo7 (h : Rk n f) : Rk n (fun P => cnt P n + f (notP P) - f allP) := by
 have hall : ∀ P, f (notP P) ≤ f allP := fun P => h.mono fun _ _ _ => rfl
 have hlow : ∀ P, f allP ≤ cnt P n + f (notP P) := by
  intro P
  have h1 := h.submod (notP P) P
  have h2 := h.le_cnt P
  have h3 : orP (notP P) P = allP := by funext i; simp only [orP, notP, allP]; cases P i <;> rfl
  rw [h3] at h1
  omega
 have hstep : ∀ {P : Nat → Bool} {x : Nat}, x < n → P x = false → f (notP (insP P x)) ≤ f (notP P) ∧ f (notP P) ≤ f (notP (insP P x)) + 1 := by
  intro P x hx hp
  have h1 := h.up' (notP (insP P x)) hx
  have h2 := h.one' (notP (insP P x)) hx
  rw [W2_ hp] at h1 h2
  exact ⟨h1, h2⟩
 refine ⟨fun {P Q} h1 => ?_, ?_, fun {P x} hx hp => ?_, fun {P x} hx hp => ?_, fun {P x y} hx hy hxy hp hq => ?_⟩
 ·rw [K0_ h1, h.ext (P := notP P) (Q := notP Q) (fun i hi => by unfold notP; rw [h1 i hi])]
 ·show cnt noneP n + f (notP noneP) - f allP = 0
  rw [F0_, show notP noneP = allP from rfl]
  omega
 ·have h1 := hstep hx hp
  have h2 := H6_ hx hp
  show cnt P n + f (notP P) - f allP ≤ cnt (insP P x) n + f (notP (insP P x)) - f allP
  omega
 ·have h1 := hstep hx hp
  have h2 := H6_ hx hp
  have h3 := hlow P
  show cnt (insP P x) n + f (notP (insP P x)) - f allP ≤ cnt P n + f (notP P) - f allP + 1
  omega
 ·have hq' : insP P x y = false := by rw [V7_ (fun e => hxy e.symm)]; exact hq
  have hp' : insP P y x = false := by rw [V7_ hxy]; exact hp
  have c1 := H6_ hx hp
  have c2 := H6_ hy hq
  have c3 := H6_ (P := insP P x) hy hq'
  have l0 := hlow P
  have l1 := hlow (insP P x)
  have l2 := hlow (insP P y)
  have l3 := hlow (insP (insP P x) y)
  have h1 := h.dim' (notP (insP (insP P x) y)) hx hy hxy
  have e1 : insP (notP (insP (insP P x) y)) y = notP (insP P x) := W2_ hq'
  have e2 : insP (notP (insP (insP P x) y)) x = notP (insP P y) := by rw [Zk3]; exact W2_ hp'
  have e3 : insP (insP (notP (insP (insP P x) y)) x) y = notP P := by rw [e2]; exact W2_ hq
  rw [e3, e1, e2] at h1
  show cnt (insP (insP P x) y) n + f (notP (insP (insP P x) y)) - f allP + (cnt P n + f (notP P) - f allP) ≤ cnt (insP P x) n + f (notP (insP P x)) - f allP + (cnt (insP P y) n + f (notP (insP P y)) - f allP)
  omega
def imgP (n : Nat) (φ : Nat → Nat) (P : Nat → Bool) : Nat → Bool := fun y => (List.range n).any fun i => P i && φ i == y
theorem imgP_iff {φ : Nat → Nat} {P : Nat → Bool} {y : Nat} : imgP n φ P y = true ↔ ∃ i, i < n ∧ P i = true ∧ φ i = y := by
 unfold imgP
 simp only [List.any_eq_true, List.mem_range, Bool.and_eq_true, beq_iff_eq]
theorem Ym9 (φ : Nat → Nat) : imgP n φ noneP = noneP := by
 funext y
 exact Bool.eq_false_iff.2 (fun h => by obtain ⟨i, _, hp, _⟩ := imgP_iff.1 h; cases hp)
theorem Xj5 {φ : Nat → Nat} {P : Nat → Bool} {x : Nat} (hx : x < n) : imgP n φ (insP P x) = insP (imgP n φ P) (φ x) := by
 funext y
 rw [Bool.eq_iff_iff, imgP_iff]
 unfold insP
 simp only [Bool.or_eq_true, beq_iff_eq, imgP_iff]
 constructor
 ·rintro ⟨i, hi, hp | hp, rfl⟩
  ·left; rw [hp]
  ·exact .inr ⟨i, hi, hp, rfl⟩
 ·rintro (rfl | ⟨i, hi, hp, rfl⟩)
  ·exact ⟨x, hx, .inl rfl, rfl⟩
  ·exact ⟨i, hi, .inr hp, rfl⟩
theorem Xo8 {φ : Nat → Nat} {P : Nat → Bool} {x : Nat} (hφ : ∀ i j, i < n → j < n → φ i = φ j → i = j) (hx : x < n) (hp : P x = false) : imgP n φ P (φ x) = false := by
 refine Bool.eq_false_iff.2 fun h => ?_
 obtain ⟨i, hi, hpi, e⟩ := imgP_iff.1 h
 rw [hφ i x hi hx e, hp] at hpi
 cases hpi
theorem Xj6 {φ : Nat → Nat} {P Q : Nat → Bool} (h : ∀ i, i < n → P i = Q i) : imgP n φ P = imgP n φ Q := by
 funext y
 rw [Bool.eq_iff_iff, imgP_iff, imgP_iff]
 exact ⟨fun ⟨i, hi, hp, e⟩ => ⟨i, hi, by rw [← h i hi]; exact hp, e⟩, fun ⟨i, hi, hp, e⟩ => ⟨i, hi, by rw [h i hi]; exact hp, e⟩⟩
theorem Xh9 {k : Nat} (h : Rk n f) {φ : Nat → Nat} (hφ : ∀ i j, i < k → j < k → φ i = φ j → i = j) (hn : ∀ i, i < k → φ i < n) (T : Nat → Bool) (hT : ∀ i, i < k → T (φ i) = false) : Rk k (fun P => f (orP T (imgP k φ P)) - f T) := by
 have hmono : ∀ P, f T ≤ f (orP T (imgP k φ P)) := fun P => h.mono fun i _ ht => by unfold orP; rw [ht]; rfl
 have hins : ∀ {P : Nat → Bool} {x : Nat}, x < k → orP T (imgP k φ (insP P x)) = insP (orP T (imgP k φ P)) (φ x) := by
  intro P x hx
  rw [Xj5 hx]
  funext i
  simp only [orP, insP]
  cases T i <;> cases i == φ x <;> rfl
 have hno : ∀ {P : Nat → Bool} {x : Nat}, x < k → P x = false → orP T (imgP k φ P) (φ x) = false := by
  intro P x hx hp
  unfold orP
  rw [hT x hx, Xo8 hφ hx hp]
  rfl
 refine ⟨fun {P Q} h1 => ?_, ?_, fun {P x} hx hp => ?_, fun {P x} hx hp => ?_, fun {P x y} hx hy hxy hp hq => ?_⟩
 ·rw [Xj6 h1]
 ·show f (orP T (imgP k φ noneP)) - f T = 0
  rw [Ym9, show orP T noneP = T from by funext i; simp [orP, noneP], Nat.sub_self]
 ·show f (orP T (imgP k φ P)) - f T ≤ f (orP T (imgP k φ (insP P x))) - f T
  rw [hins hx]
  have := h.up (hn x hx) (hno hx hp)
  omega
 ·show f (orP T (imgP k φ (insP P x))) - f T ≤ f (orP T (imgP k φ P)) - f T + 1
  rw [hins hx]
  have := h.one (hn x hx) (hno hx hp)
  omega
 ·show f (orP T (imgP k φ (insP (insP P x) y))) - f T + (f (orP T (imgP k φ P)) - f T) ≤ f (orP T (imgP k φ (insP P x))) - f T + (f (orP T (imgP k φ (insP P y))) - f T)
  rw [hins hy, hins hx, hins hy]
  have h1 := h.dim (hn x hx) (hn y hy) (fun e => hxy (hφ x y hx hy e)) (hno hx hp) (hno hy hq)
  have m0 := hmono P
  have m1 := h.up (hn x hx) (hno hx hp)
  have m2 := h.up (hn y hy) (hno hy hq)
  omega
end
theorem Vy7 {n m : Nat} {f g : (Nat → Bool) → Nat} (hf : Rk n f) (hg : Rk m g) : Rk (n + m) (fun P => f P + g (fun i => P (n + i))) := by
 have e1 : ∀ {P : Nat → Bool} {x : Nat}, n ≤ x → f (insP P x) = f P := fun {P x} hx => hf.ext fun i hi => V7_ (by omega)
 have e2 : ∀ {P : Nat → Bool} {x : Nat}, x < n → (fun i => insP P x (n + i)) = fun i => P (n + i) := fun {P x} hx => by funext i; exact V7_ (by omega)
 have e3 : ∀ {P : Nat → Bool} {x : Nat}, n ≤ x → (fun i => insP P x (n + i)) = insP (fun i => P (n + i)) (x - n) := fun {P x} hx => by
  funext i
  show (n + i == x || P (n + i)) = (i == x - n || P (n + i))
  have : (n + i == x) = (i == x - n) := by rw [Bool.eq_iff_iff, beq_iff_eq, beq_iff_eq]; omega
  rw [this]
 have e4 : ∀ {P : Nat → Bool} {x : Nat}, n ≤ x → P x = false → (fun i => P (n + i)) (x - n) = false := fun {P x} hx hp => by
  show P (n + (x - n)) = false
  rw [show n + (x - n) = x by omega]
  exact hp
 refine ⟨fun {P Q} h1 => ?_, ?_, fun {P x} hx hp => ?_, fun {P x} hx hp => ?_, fun {P x y} hx hy hxy hp hq => ?_⟩
 ·rw [hf.ext (fun i hi => h1 i (by omega)), hg.ext (fun i hi => h1 (n + i) (by omega))]
 ·show f noneP + g noneP = 0
  rw [hf.zero, hg.zero]
 ·show f P + g (fun i => P (n + i)) ≤ f (insP P x) + g (fun i => insP P x (n + i))
  by_cases h : x < n
  ·rw [e2 h]; have := hf.up h hp; omega
  ·rw [e1 (by omega), e3 (by omega)]; have := hg.up (P := fun i => P (n + i)) (x := x - n) (by omega) (e4 (P := P) (x := x) (by omega) hp); omega
 ·show f (insP P x) + g (fun i => insP P x (n + i)) ≤ f P + g (fun i => P (n + i)) + 1
  by_cases h : x < n
  ·rw [e2 h]; have := hf.one h hp; omega
  ·rw [e1 (by omega), e3 (by omega)]; have := hg.one (P := fun i => P (n + i)) (x := x - n) (by omega) (e4 (P := P) (x := x) (by omega) hp); omega
 ·show f (insP (insP P x) y) + g (fun i => insP (insP P x) y (n + i)) + (f P + g (fun i => P (n + i))) ≤ f (insP P x) + g (fun i => insP P x (n + i)) + (f (insP P y) + g (fun i => insP P y (n + i)))
  by_cases h : x < n
  ·by_cases h' : y < n
   ·rw [e2 h', e2 h, e2 h']; have := hf.dim h h' hxy hp hq; omega
   ·rw [e1 (P := insP P x) (by omega), e1 (P := P) (x := y) (by omega), e3 (P := insP P x) (by omega), e2 h, e3 (P := P) (x := y) (by omega)]
    omega
  ·by_cases h' : y < n
   ·have a1 : f (insP (insP P x) y) = f (insP P y) := by rw [Zk3]; exact e1 (by omega)
    have a2 : f (insP P x) = f P := e1 (by omega)
    rw [a1, a2, e2 (P := insP P x) h', e2 (P := P) h']
    omega
   ·rw [e1 (P := insP P x) (by omega), e1 (P := P) (x := x) (by omega), e1 (P := P) (x := y) (by omega), e3 (P := insP P x) (by omega), e3 (P := P) (x := x) (by omega), e3 (P := P) (x := y) (by omega)]
    have := hg.dim (P := fun i => P (n + i)) (x := x - n) (y := y - n) (by omega) (by omega) (by omega) (e4 (P := P) (x := x) (by omega) hp) (e4 (P := P) (x := y) (by omega) hq)
    omega
end Go.Proofs.YtgadbnbhgpehjaaGreatDoor.Wp
namespace Go.Proofs.YtgadbnbhgpehjaaGreatDoor.Wp.K
theorem nodup_le {α : Type} [DecidableEq α] : ∀ {a b : List α}, a.Nodup → (∀ x ∈ a, x ∈ b) → a.length ≤ b.length
 | [], b, _, _ => by simp
 | x :: a, b, hn, h => by
  obtain ⟨hx, hn⟩ := List.nodup_cons.1 hn
  have hb : x ∈ b := h x (by simp)
  have ih := nodup_le (a := a) (b := b.erase x) hn fun y hy => (List.mem_erase_of_ne (fun e => hx (by rw [← e]; exact hy))).2 (h y (by simp [hy]))
  rw [List.length_erase_of_mem hb] at ih
  have : 0 < b.length := List.length_pos_of_mem hb
  simp
  omega
def cntP (n : Nat) (p : Nat → Bool) : Nat := ((List.range n).filter p).length
theorem B0_ (n : Nat) (p : Nat → Bool) : cntP (n + 1) p = cntP n p + if p n then 1 else 0 := by
 unfold cntP
 rw [List.range_succ, List.filter_append, List.length_append]
 cases h : p n <;> simp [h]
theorem Zs5 (p : Nat → Bool) : ∀ n, cntP n p ≤ n
 | 0 => le_refl _
 | n + 1 => by
  have := Zs5 p n
  rw [B0_]
  split <;> omega
theorem Zy7 {p q : Nat → Bool} : ∀ {n : Nat}, (∀ i, i < n → p i = true → q i = true) → cntP n p ≤ cntP n q
 | 0, _ => le_refl _
 | n + 1, h => by
  have ih := Zy7 (n := n) fun i hi => h i (by omega)
  rw [B0_, B0_]
  have := h n (by omega)
  cases hp : p n
  ·simp; omega
  ·simp [this hp]; omega
theorem cntP_split (p q : Nat → Bool) : ∀ n, cntP n p = cntP n (fun i => p i && q i) + cntP n fun i => p i && !q i
 | 0 => rfl
 | n + 1 => by
  have ih := cntP_split p q n
  rw [B0_, B0_, B0_, ih]
  cases p n <;> cases q n <;> simp <;> omega
theorem Zs6 (n : Nat) : (List.range n).Nodup := List.nodup_range
theorem cntP_inj {n R : Nat} {p q : Nat → Bool} (f : Nat → Nat) (hf : ∀ i, i < n → p i = true → f i < R ∧ q (f i) = true) (hi : ∀ i j, i < n → j < n → p i = true → p j = true → f i = f j → i = j) : cntP n p ≤ cntP R q := by
 have h1 : (((List.range n).filter p).map f).Nodup := by
  have h0 : ((List.range n).filter p).Nodup := (Zs6 n).sublist List.filter_sublist
  refine List.pairwise_map.2 (List.Pairwise.imp_of_mem ?_ h0)
  intro a b ha hb hab e
  have ha' := List.mem_filter.1 ha
  have hb' := List.mem_filter.1 hb
  exact hab (hi a b (List.mem_range.1 ha'.1) (List.mem_range.1 hb'.1) ha'.2 hb'.2 e)
 have h2 := nodup_le (b := (List.range R).filter q) h1 fun x hx => by
  obtain ⟨i, hi, rfl⟩ := List.mem_map.1 hx
  have hi' := List.mem_filter.1 hi
  have := hf i (List.mem_range.1 hi'.1) hi'.2
  exact List.mem_filter.2 ⟨List.mem_range.2 this.1, this.2⟩
 unfold cntP
 simpa using h2
def Goes (adj : List (List Int)) (i r : Nat) : Prop := (r : Int) ∈ adj.getD i []
def OnR (R : Nat) (adj : List (List Int)) : Prop := ∀ i x, x ∈ adj.getD i [] → ∃ r : Nat, x = (r : Int) ∧ r < R
theorem goes_lt {adj : List (List Int)} {i r : Nat} (h : Goes adj i r) : i < adj.length := by
 rcases Nat.lt_or_ge i adj.length with hl | hl
 ·exact hl
 ·unfold Goes at h
  rw [List.getD_eq_getElem?_getD, List.getElem?_eq_none hl] at h
  exact absurd h (by simp)
structure Mat (R : Nat) (adj : List (List Int)) (h : Nat → Int) : Prop where
 ok : ∀ i, i < adj.length → h i = -1 ∨ ∃ r : Nat, r < R ∧ h i = (r : Int) ∧ Goes adj i r
 inj : ∀ i j, i < adj.length → j < adj.length → h i = h j → h i ≠ -1 → i = j
def msize (adj : List (List Int)) (h : Nat → Int) : Nat := cntP adj.length fun i => decide (h i ≠ -1)
def Cov (adj : List (List Int)) (A B : Nat → Bool) : Prop := ∀ i r, Goes adj i r → A i = true ∨ B r = true
theorem mat_le_cov {R : Nat} {adj : List (List Int)} {h : Nat → Int} {A B : Nat → Bool} (hm : Mat R adj h) (hc : Cov adj A B) : msize adj h ≤ cntP adj.length A + cntP R B := by
 unfold msize
 rw [cntP_split _ A]
 have h1 : cntP adj.length (fun i => decide (h i ≠ -1) && A i) ≤ cntP adj.length A := Zy7 fun i _ hi => by
  rw [Bool.and_eq_true] at hi
  exact hi.2
 have h2 : cntP adj.length (fun i => decide (h i ≠ -1) && !A i) ≤ cntP R B := cntP_inj (fun i => (h i).toNat) (fun i hi hp => by
  rw [Bool.and_eq_true, decide_eq_true_iff] at hp
  rcases hm.ok i hi with e | ⟨r, hr, e, hg⟩
  ·exact absurd e hp.1
  ·rw [e, Int.toNat_natCast]
   refine ⟨hr, (hc i r hg).resolve_left ?_⟩
   intro ha
   rw [ha] at hp
   exact absurd hp.2 (by simp)) (fun i j hi hj hp hq e => by
  rw [Bool.and_eq_true, decide_eq_true_iff] at hp hq
  rcases hm.ok i hi with e1 | ⟨r, _, e1, _⟩
  ·exact absurd e1 hp.1
  ·rcases hm.ok j hj with e2 | ⟨s, _, e2, _⟩
   ·exact absurd e2 hq.1
   ·refine hm.inj i j hi hj ?_ hp.1
    have e' : r = s := by simpa [e1, e2] using e
    rw [e1, e2, e'])
 omega
def Clo (adj : List (List Int)) (os : Nat → Int) (S : Nat → Prop) : Prop := ∀ r, S r → ∃ j : Nat, os r = (j : Int) ∧ ∀ x, Goes adj j x → S x
structure Pairs (R : Nat) (adj : List (List Int)) (hs os : Nat → Int) : Prop where
 l : ∀ i, i < adj.length → hs i = -1 ∨ ∃ r : Nat, r < R ∧ hs i = (r : Int) ∧ Goes adj i r ∧ os r = (i : Int)
 r : ∀ r, r < R → os r = -1 ∨ ∃ i : Nat, i < adj.length ∧ os r = (i : Int) ∧ hs i = (r : Int)
theorem Pairs.mat {R : Nat} {adj : List (List Int)} {hs os : Nat → Int} (h : Pairs R adj hs os) : Mat R adj hs where
 ok := fun i hi => (h.l i hi).imp id fun ⟨r, a, b, c, _⟩ => ⟨r, a, b, c⟩
 inj := fun i j hi hj e hn => by
  rcases h.l i hi with e1 | ⟨r, _, e1, _, o1⟩
  ·exact absurd e1 hn
  ·rcases h.l j hj with e2 | ⟨s, _, e2, _, o2⟩
   ·exact absurd (e.trans e2) hn
   ·have : r = s := by
     have := e1.symm.trans (e.trans e2)
     omega
    subst this
    have := o1.symm.trans o2
    omega
def updI (f : Nat → Int) (a : Nat) (t : Int) : Nat → Int := fun x => if x = a then t else f x
def updB (f : Nat → Bool) (a : Nat) : Nat → Bool := fun x => if x = a then true else f x
structure Found (R : Nat) (adj : List (List Int)) (hs os : Nat → Int) (al : Nat → Bool) (i : Nat) (hs' os' : Nat → Int) : Prop where
 a : ∃ r : Nat, r < R ∧ hs' i = (r : Int) ∧ Goes adj i r ∧ os' r = (i : Int) ∧ al r = false
 b : ∀ j, j < adj.length → j ≠ i → (hs j = -1 ↔ hs' j = -1)
 c : ∀ j, j < adj.length → hs' j = -1 ∨ ∃ r : Nat, r < R ∧ hs' j = (r : Int) ∧ Goes adj j r ∧ os' r = (j : Int)
 d : ∀ r, r < R → os' r = -1 ∨ ∃ j : Nat, j < adj.length ∧ os' r = (j : Int) ∧ (hs' j = (r : Int) ∨ (j = i ∧ hs i = (r : Int)))
 e : ∀ r, al r = true → os' r = os r
 f : ∀ S, Clo adj os S → (¬ ∀ x, Goes adj i x → S x) ∧ ∀ r, S r → os' r = os r
structure Missed (adj : List (List Int)) (os : Nat → Int) (al : Nat → Bool) (i : Nat) (al' : Nat → Bool) : Prop where
 up : ∀ r, al r = true → al' r = true
 all : ∀ x, Goes adj i x → al' x = true
 cl : ∀ r, al' r = true → al r = false → ∃ j : Nat, os r = (j : Int) ∧ ∀ x, Goes adj j x → al' x = true
structure Tried (adj : List (List Int)) (os : Nat → Int) (al : Nat → Bool) (i k : Nat) (al' : Nat → Bool) : Prop where
 up : ∀ r, al r = true → al' r = true
 all : ∀ m x, m < k → (adj.getD i [])[m]? = some ((x : Nat) : Int) → al' x = true
 cl : ∀ r, al' r = true → al r = false → ∃ j : Nat, os r = (j : Int) ∧ ∀ x, Goes adj j x → al' x = true
variable {R : Nat} {adj : List (List Int)} {hs os hs' os' : Nat → Int} {al al' al'' : Nat → Bool} {i k j r : Nat}
theorem Yc6 : Tried adj os al i 0 al := ⟨fun _ h => h, fun _ _ h => by omega, fun r h k => by rw [h] at k; cases k⟩
theorem Tried.skip (h : Tried adj os al i k al') (hr : (adj.getD i [])[k]? = some (r : Int)) (ha : al' r = true) : Tried adj os al i (k + 1) al' :=
 ⟨h.up, fun m x hm hx => by
  by_cases e : m = k
  ·subst e
   rw [hr] at hx
   have : r = x := by
    injection hx with hx
    omega
   exact this ▸ ha
  ·exact h.all m x (by omega) hx, h.cl⟩
theorem Tried.miss (h : Tried adj os al i k al') (hr : (adj.getD i [])[k]? = some (r : Int)) (ho : os r = (j : Int)) (hm : Missed adj os (updB al' r) j al'') : Tried adj os al i (k + 1) al'' := by
 have hup : ∀ x, al' x = true → al'' x = true := fun x hx => hm.up x (by unfold updB; split <;> first | rfl | exact hx)
 have hrr : al'' r = true := hm.up r (by unfold updB; rw [if_pos rfl])
 refine ⟨fun x hx => hup x (h.up x hx), fun m x hlt hx => ?_, fun x h1 h2 => ?_⟩
 ·by_cases e : m = k
  ·subst e
   rw [hr] at hx
   have : r = x := by
    injection hx with hx
    omega
   exact this ▸ hrr
  ·exact hup x (h.all m x (by omega) hx)
 ·by_cases hxr : x = r
  ·subst hxr
   exact ⟨j, ho, hm.all⟩
  ·rcases hx : al' x with _ | _
   ·exact hm.cl x h1 (by unfold updB; rw [if_neg hxr]; exact hx)
   ·obtain ⟨q, e, hq⟩ := h.cl x hx h2
    exact ⟨q, e, fun y hy => hup y (hq y hy)⟩
theorem Tried.done (h : Tried adj os al i k al') (hk : (adj.getD i []).length ≤ k) : Missed adj os al i al' :=
 ⟨h.up, fun x hx => by
  obtain ⟨m, hm⟩ := List.mem_iff_getElem?.1 hx
  have : m < (adj.getD i []).length := (List.getElem?_eq_some_iff.1 hm).1
  exact h.all m x (by omega) hm, h.cl⟩
theorem Yc7 (hP : Pairs R adj hs os) (hi : i < adj.length) (hr : r < R) (hg : Goes adj i r) (ho : os r = -1) (ha : al r = false) : Found R adj hs os al i (updI hs i r) (updI os r i) := by
 have hn : ∀ j, j < adj.length → hs j ≠ (r : Int) := by
  intro j hj e
  rcases hP.l j hj with e1 | ⟨s, _, e1, _, o⟩
  ·omega
  ·have : s = r := by omega
   subst this
   omega
 refine ⟨⟨r, hr, if_pos rfl, hg, if_pos rfl, ha⟩, fun j _ hj => by unfold updI; rw [if_neg hj], fun j hj => ?_, fun s hs' => ?_, fun s hs' => ?_, fun S hS => ⟨fun hall => ?_, fun s hs' => ?_⟩⟩
 ·unfold updI
  by_cases e : j = i
  ·subst e
   rw [if_pos rfl]
   exact .inr ⟨r, hr, rfl, hg, if_pos rfl⟩
  ·rw [if_neg e]
   rcases hP.l j hj with e1 | ⟨s, h1, h2, h3, h4⟩
   ·exact .inl e1
   ·refine .inr ⟨s, h1, h2, h3, ?_⟩
    rw [if_neg]
    ·exact h4
    ·rintro rfl
     exact hn j hj h2
 ·unfold updI
  by_cases e : s = r
  ·subst e
   rw [if_pos rfl]
   exact .inr ⟨i, hi, rfl, .inl (if_pos rfl)⟩
  ·rw [if_neg e]
   rcases hP.r s hs' with e1 | ⟨j, h1, h2, h3⟩
   ·exact .inl e1
   ·refine .inr ⟨j, h1, h2, ?_⟩
    by_cases e2 : j = i
    ·subst e2
     exact .inr ⟨rfl, h3⟩
    ·rw [if_neg e2]
     exact .inl h3
 ·unfold updI
  rw [if_neg]
  rintro rfl
  rw [ha] at hs'
  cases hs'
 ·obtain ⟨j, e, _⟩ := hS r (hall r hg)
  omega
 ·unfold updI
  rw [if_neg]
  rintro rfl
  obtain ⟨j, e, _⟩ := hS _ hs'
  omega
theorem Yc8 (hP : Pairs R adj hs os) (hi : i < adj.length) (hpre : hs i = -1 ∨ ∃ q : Nat, hs i = (q : Int) ∧ al q = true) (hr : r < R) (hg : Goes adj i r) (ho : os r = (j : Int)) (hup : ∀ x, al x = true → al' x = true) (ha : al' r = false)
  (hF : Found R adj hs os (updB al' r) j hs' os') : Found R adj hs os al i (updI hs' i r) (updI os' r i) := by
 have har : al r = false := by
  rcases h : al r with _ | _
  ·rfl
  ·rw [hup r h] at ha
   cases ha
 have hu : ∀ x, al x = true → updB al' r x = true := fun x hx => by unfold updB; split <;> first | rfl | exact hup x hx
 obtain ⟨hjn, hjr⟩ : j < adj.length ∧ hs j = (r : Int) := by
  rcases hP.r r hr with e | ⟨q, h1, h2, h3⟩
  ·omega
  ·have : q = j := by omega
   subst this
   exact ⟨h1, h3⟩
 have hij : j ≠ i := by
  rintro rfl
  rcases hpre with e | ⟨q, e, hq⟩
  ·omega
  ·have : q = r := by omega
   subst this
   rw [har] at hq
   cases hq
 obtain ⟨r1, hr1, e1, hg1, o1, ha1⟩ := hF.a
 have hr1r : r1 ≠ r := by
  rintro rfl
  unfold updB at ha1
  rw [if_pos rfl] at ha1
  cases ha1
 have hor : os' r = (j : Int) := (hF.e r (by unfold updB; rw [if_pos rfl])).trans ho
 refine ⟨⟨r, hr, if_pos rfl, hg, if_pos rfl, har⟩, fun q hq hqi => ?_, fun q hq => ?_, fun s hsR => ?_, fun s hsa => ?_, fun S hS => ?_⟩
 ·unfold updI
  rw [if_neg hqi]
  by_cases e : q = j
  ·subst e
   constructor
   ·intro h; omega
   ·intro h; omega
  ·exact hF.b q hq e
 ·unfold updI
  by_cases e : q = i
  ·subst e
   rw [if_pos rfl]
   exact .inr ⟨r, hr, rfl, hg, if_pos rfl⟩
  ·rw [if_neg e]
   rcases hF.c q hq with e2 | ⟨s, h1, h2, h3, h4⟩
   ·exact .inl e2
   ·refine .inr ⟨s, h1, h2, h3, ?_⟩
    rw [if_neg]
    ·exact h4
    ·rintro rfl
     have : q = j := by omega
     subst this
     omega
 ·unfold updI
  by_cases e : s = r
  ·subst e
   rw [if_pos rfl]
   exact .inr ⟨i, hi, rfl, .inl (if_pos rfl)⟩
  ·rw [if_neg e]
   rcases hF.d s hsR with e2 | ⟨q, h1, h2, h3⟩
   ·exact .inl e2
   ·refine .inr ⟨q, h1, h2, ?_⟩
    have h4 : hs' q = (s : Int) := by
     rcases h3 with h3 | ⟨rfl, h3⟩
     ·exact h3
     ·omega
    by_cases e3 : q = i
    ·subst e3
     right
     refine ⟨rfl, ?_⟩
     rcases hpre with e4 | ⟨q0, e4, hq0⟩
     ·have := (hF.b q hi (fun e => hij e.symm)).1 e4
      omega
     ·
      have hq0R : q0 < R := by
       rcases hP.l q hi with e5 | ⟨s', h5, h6, _⟩
       ·omega
       ·omega
      have hoq : os q0 = (q : Int) := by
       rcases hP.l q hi with e5 | ⟨s', h5, h6, _, h7⟩
       ·omega
       ·have : s' = q0 := by omega
        subst this
        exact h7
      have hoq' := (hF.e q0 (hu q0 hq0)).trans hoq
      rcases hF.d q0 hq0R with e6 | ⟨q', _, h8, h9⟩
      ·omega
      ·have : q' = q := by omega
       subst this
       rcases h9 with h9 | ⟨h9, _⟩
       ·omega
       ·exact absurd h9.symm hij
    ·rw [if_neg e3]
     exact .inl h4
 ·unfold updI
  rw [if_neg]
  ·exact hF.e s (hu s hsa)
  ·rintro rfl
   rw [har] at hsa
   cases hsa
 ·obtain ⟨h1, h2⟩ := hF.f S hS
  have hrS : ¬ S r := by
   intro h
   obtain ⟨q, e, hq⟩ := hS r h
   have : q = j := by omega
   subst this
   exact h1 hq
  refine ⟨fun hall => hrS (hall r hg), fun s hs' => ?_⟩
  unfold updI
  rw [if_neg]
  ·exact h2 s hs'
  ·rintro rfl
   exact hrS hs'
structure Great (R : Nat) (adj : List (List Int)) (hs os : Nat → Int) (k : Nat) : Prop where
 p : Pairs R adj hs os
 rest : ∀ i, k ≤ i → i < adj.length → hs i = -1
 shut : ∀ i, i < k → hs i = -1 → ∃ S, Clo adj os S ∧ ∀ x, Goes adj i x → S x
theorem Yc9 (h1 : ∀ i, hs i = -1) (h2 : ∀ r, os r = -1) : Great R adj hs os 0 := ⟨⟨fun i _ => .inl (h1 i), fun r _ => .inl (h2 r)⟩, fun i _ _ => h1 i, fun i hi => by omega⟩
theorem Great.hit (h : Great R adj hs os k) (hk : k < adj.length) (hF : Found R adj hs os al k hs' os') : Great R adj hs' os' (k + 1) := by
 have h0 := h.rest k (le_refl _) hk
 refine ⟨⟨hF.c, fun r hr => ?_⟩, fun i hi hil => ?_, fun i hi he => ?_⟩
 ·rcases hF.d r hr with e | ⟨j, h1, h2, h3⟩
  ·exact .inl e
  ·refine .inr ⟨j, h1, h2, ?_⟩
   rcases h3 with h3 | ⟨rfl, h3⟩
   ·exact h3
   ·omega
 ·exact (hF.b i hil (by omega)).1 (h.rest i (by omega) hil)
 ·have hik : i ≠ k := by
   rintro rfl
   obtain ⟨r, _, e, _⟩ := hF.a
   omega
  obtain ⟨S, hS, hx⟩ := h.shut i (by omega) ((hF.b i (by omega) hik).2 he)
  refine ⟨S, fun r hr => ?_, hx⟩
  rw [(hF.f S hS).2 r hr]
  exact hS r hr
theorem Great.miss (h : Great R adj hs os k) (ha : ∀ r, al r = false) (hM : Missed adj os al k al') : Great R adj hs os (k + 1) :=
 ⟨h.p, fun i hi hl => h.rest i (by omega) hl, fun i hi he => by
  by_cases e : i = k
  ·subst e
   exact ⟨fun r => al' r = true, fun r hr => hM.cl r hr (ha r), hM.all⟩
  ·exact h.shut i (by omega) he⟩
structure Reach (adj : List (List Int)) (hs os : Nat → Int) (k : Nat) (al : Nat → Bool) : Prop where
 from_ : ∀ i, i < k → hs i = -1 → ∀ x, Goes adj i x → al x = true
 cl : ∀ r, al r = true → ∃ j : Nat, os r = (j : Int) ∧ ∀ x, Goes adj j x → al x = true
def isL (hs : Nat → Int) (al : Nat → Bool) (i : Nat) : Bool := decide (hs i ≠ -1) && !al (hs i).toNat
def isR (hs : Nat → Int) (al : Nat → Bool) (i : Nat) : Bool := decide (hs i ≠ -1) && al (hs i).toNat
theorem Yn0 (hP : Pairs R adj hs os) (h : Reach adj hs os adj.length al) (hR : OnR R adj) : Cov adj (isL hs al) fun r => decide (∃ i, i < adj.length ∧ isR hs al i = true ∧ hs i = (r : Int)) := by
 intro i r hg
 have hi := goes_lt hg
 have hrR : r < R := by
  obtain ⟨s, e, hs⟩ := hR i r hg
  omega
 have key : al r = true → (decide (∃ i, i < adj.length ∧ isR hs al i = true ∧ hs i = (r : Int))) = true := by
  intro ha
  obtain ⟨j, ho, _⟩ := h.cl r ha
  rcases hP.r r hrR with e | ⟨q, h1, h2, h3⟩
  ·omega
  ·refine decide_eq_true ⟨q, h1, ?_, h3⟩
   unfold isR
   rw [h3, Int.toNat_natCast, ha]
   simp
 rcases hP.l i hi with e | ⟨s, h1, h2, h3, h4⟩
 ·exact .inr (key (h.from_ i hi e r hg))
 ·rcases hs' : al s with _ | _
  ·left
   unfold isL
   rw [h2, Int.toNat_natCast, hs']
   simp
  ·obtain ⟨j, ho, hj⟩ := h.cl s hs'
   have : j = i := by omega
   subst this
   exact .inr (key (hj r hg))
theorem Yd0 (hs : Nat → Int) (al : Nat → Bool) (n : Nat) : cntP n (isL hs al) + cntP n (isR hs al) = cntP n fun i => decide (hs i ≠ -1) := by
 rw [cntP_split (fun i => decide (hs i ≠ -1)) (fun i => al (hs i).toNat) n]
 unfold isL isR
 omega
end Go.Proofs.YtgadbnbhgpehjaaGreatDoor.Wp.K
namespace Go.Proofs.YtgadbnbhgpehjaaGreatDoor.Wp.K
theorem Zs7 {R : Nat} {adj : List (List Int)} {hs os : Nat → Int} (h : Great R adj hs os adj.length) : ∃ al, Reach adj hs os adj.length al := by
 classical
 refine ⟨fun r => decide (∃ i, i < adj.length ∧ hs i = -1 ∧ ∃ S, Clo adj os S ∧ (∀ x, Goes adj i x → S x) ∧ S r), ?_, ?_⟩
 ·intro i hi he x hx
  obtain ⟨S, hS, hall⟩ := h.shut i hi he
  exact decide_eq_true ⟨i, hi, he, S, hS, hall, hall x hx⟩
 ·intro r hr
  obtain ⟨i, hi, he, S, hS, hall, hSr⟩ := of_decide_eq_true hr
  obtain ⟨j, ho, hj⟩ := hS r hSr
  exact ⟨j, ho, fun x hx => decide_eq_true ⟨i, hi, he, S, hS, hall, hj x hx⟩⟩
theorem Yn1 {R : Nat} {adj : List (List Int)} {hs os : Nat → Int} (hP : Pairs R adj hs os) (al : Nat → Bool) : cntP R (fun r => decide (∃ i, i < adj.length ∧ isR hs al i = true ∧ hs i = (r : Int))) ≤ cntP adj.length (isR hs al) := by
 have key : ∀ r : Nat, decide (∃ i, i < adj.length ∧ isR hs al i = true ∧ hs i = (r : Int)) = true → ∃ i : Nat, i < adj.length ∧ isR hs al i = true ∧ hs i = (r : Int) ∧ os r = (i : Int) := by
  intro r hr
  obtain ⟨i, hi, h1, h2⟩ := of_decide_eq_true hr
  rcases hP.l i hi with e | ⟨s, _, e, _, o⟩
  ·omega
  ·have : s = r := by omega
   subst this
   exact ⟨i, hi, h1, h2, o⟩
 refine cntP_inj (fun r => (os r).toNat) (fun r _ hr => ?_) (fun r q _ _ hr hq e => ?_)
 ·obtain ⟨i, hi, h1, _, o⟩ := key r hr
  rw [o, Int.toNat_natCast]
  exact ⟨hi, h1⟩
 ·obtain ⟨i, _, _, h2, o⟩ := key r hr
  obtain ⟨j, _, _, h4, o2⟩ := key q hq
  have e' : i = j := by
   rw [o, o2] at e
   simpa using e
  subst e'
  omega
def Big (R : Nat) (adj : List (List Int)) (n : Nat) : Prop := (∃ h, Mat R adj h ∧ msize adj h = n) ∧ ∃ A B, Cov adj A B ∧ cntP adj.length A + cntP R B ≤ n
theorem great_big {R : Nat} {adj : List (List Int)} {hs os : Nat → Int} (h : Great R adj hs os adj.length) (hR : OnR R adj) : Big R adj (msize adj hs) := by
 obtain ⟨al, hal⟩ := Zs7 h
 refine ⟨⟨hs, h.p.mat, rfl⟩, _, _, Yn0 h.p hal hR, ?_⟩
 have h1 := Yn1 h.p al
 have h2 := Yd0 hs al adj.length
 unfold msize
 omega
end Go.Proofs.YtgadbnbhgpehjaaGreatDoor.Wp.K
namespace Go.Proofs.YtgadbnbhgpehjaaGreatDoor.Wp
def pickN (n : Nat) (P : Nat → Bool) : List Nat := (List.range n).filter P
theorem mem_pick {n : Nat} {P : Nat → Bool} {i : Nat} : i ∈ pickN n P ↔ i < n ∧ P i = true := by simp [pickN]
theorem Yv7 {n : Nat} {P Q : Nat → Bool} (h : ∀ i, i < n → P i = Q i) : pickN n P = pickN n Q := List.filter_congr fun i hi => h i (List.mem_range.1 hi)
theorem Zk4 (n : Nat) : pickN n noneP = [] := List.filter_eq_nil_iff.2 fun _ _ => by simp [noneP]
theorem K1_ {n : Nat} {P : Nat → Bool} {x i : Nat} (hx : x < n) : i ∈ pickN n (insP P x) ↔ i = x ∨ i ∈ pickN n P := by
 rw [mem_pick, mem_pick]
 by_cases e : i = x
 ·subst e; simp [Q2_, hx]
 ·rw [V7_ e]; simp [e]
def edgP (n : Nat) (e : Nat → Nat × Nat) (P : Nat → Bool) : List (Nat × Nat) := (pickN n P).map e
def K2_ (A n : Nat) (e : Nat → Nat × Nat) (P : Nat → Bool) : Nat := A - E5_ A (edgP n e P)
theorem Yv8 {n : Nat} {e : Nat → Nat × Nat} {P : Nat → Bool} {g : Nat → Nat} : Cst (edgP n e P) g ↔ ∀ i, i < n → P i = true → g (e i).1 = g (e i).2 := by
 unfold Cst edgP
 constructor
 ·intro h i hi hp
  exact h _ (List.mem_map_of_mem (mem_pick.2 ⟨hi, hp⟩))
 ·intro h c hc
  obtain ⟨i, hi, rfl⟩ := List.mem_map.1 hc
  exact h i (mem_pick.1 hi).1 (mem_pick.1 hi).2
theorem Yn2 {n : Nat} {e : Nat → Nat × Nat} {P : Nat → Bool} {x : Nat} (hx : x < n) (g : Nat → Nat) : Cst (edgP n e (insP P x)) g ↔ Cst (edgP n e P ++ [e x]) g := by
 rw [cst_append, cst_one, Yv8, Yv8]
 constructor
 ·intro h
  exact ⟨fun i hi hp => h i hi (by unfold insP; rw [hp]; simp), h x hx (Q2_ P x)⟩
 ·rintro ⟨h1, h2⟩ i hi hp
  by_cases e1 : i = x
  ·rw [e1]; exact h2
  ·rw [V7_ e1] at hp; exact h1 i hi hp
theorem Xj7 {A n : Nat} {e : Nat → Nat × Nat} (he : ∀ i, i < n → (e i).1 < A ∧ (e i).2 < A) : Rk n (K2_ A n e) := by
 refine Rk.of_step (fun P x => decide (compF (edgP n e P) (e x).1 ≠ compF (edgP n e P) (e x).2)) (fun {P Q} h => ?_) ?_ (fun {P x} hx hp => ?_) (fun {P x y} hx hy hxy hp hq h => ?_)
 ·unfold K2_ edgP; rw [Yv7 h]
 ·unfold K2_ edgP
  rw [Zk4, List.map_nil, Yc0, Nat.sub_self]
 ·have e1 : E5_ A (edgP n e (insP P x)) = E5_ A (edgP n e P ++ [e x]) := Zr7 (Yn2 hx)
  have hle := Zy1 A (edgP n e P)
  unfold K2_
  rw [e1]
  by_cases h : compF (edgP n e P) (e x).1 = compF (edgP n e P) (e x).2
  ·rw [Ym5 h, if_neg (by simpa using h)]
   rfl
  ·have := Yb9 h (he x hx).1 (he x hx).2
   rw [if_pos (by simpa using h)]
   omega
 ·rw [decide_eq_true_iff] at h ⊢
  intro hc
  apply h
  have e1 : compF (edgP n e (insP P x)) = compF (edgP n e P ++ [e x]) := Zi8 (Yn2 hx)
  rw [e1, ← Zk0, hc, Zk0]
def sumN (g : Nat → Nat) : Nat → Nat
 | 0 => 0
 | k + 1 => sumN g k + g k
theorem O7_ {g h : Nat → Nat} : ∀ {k : Nat}, (∀ c, c < k → g c = h c) → sumN g k = sumN h k
 | 0, _ => rfl
 | k + 1, e => by rw [sumN, sumN, O7_ fun c hc => e c (by omega), e k (by omega)]
theorem Zy8 {g : Nat → Nat} : ∀ {k : Nat}, (∀ c, c < k → g c = 0) → sumN g k = 0
 | 0, _ => rfl
 | k + 1, e => by rw [sumN, Zy8 fun c hc => e c (by omega), e k (by omega)]
theorem Ze8 {g h : Nat → Nat} {b : Nat} {d : Nat} : ∀ {k : Nat}, b < k → (∀ c, c ≠ b → g c = h c) → g b = h b + d → sumN g k = sumN h k + d
 | 0, hb, _, _ => by omega
 | k + 1, hb, e, eb => by
  rw [sumN, sumN]
  by_cases h1 : b = k
  ·subst h1
   rw [O7_ (g := g) (h := h) fun c hc => e c (by omega), eb]
   omega
  ·rw [Ze8 (g := g) (h := h) (b := b) (d := d) (by omega) e eb, e k (fun h2 => h1 h2.symm)]
   omega
def clsN (n : Nat) (cls : Nat → Nat) (P : Nat → Bool) (c : Nat) : Nat := cnt (fun i => P i && cls i == c) n
def partR (A n : Nat) (cls most : Nat → Nat) (P : Nat → Bool) : Nat := sumN (fun c => min (most c) (clsN n cls P c)) A
theorem M9_ {n : Nat} {cls : Nat → Nat} {P : Nat → Bool} {x c : Nat} (hx : x < n) (hp : P x = false) : clsN n cls (insP P x) c = clsN n cls P c + if cls x = c then 1 else 0 := by
 unfold clsN
 by_cases h : cls x = c
 ·rw [if_pos h, ← H6_ (P := fun i => P i && cls i == c) hx (by simp [hp])]
  refine K0_ fun i _ => ?_
  by_cases e : i = x
  ·subst e; simp [Q2_, h]
  ·rw [V7_ e]
   show _ = insP (fun i => P i && cls i == c) x i
   rw [V7_ e]
 ·rw [if_neg h, Nat.add_zero]
  refine K0_ fun i _ => ?_
  by_cases e : i = x
  ·rw [e, show (cls x == c) = false from by simpa using h, Bool.and_false, Bool.and_false]
  ·rw [V7_ e]
theorem Zs8 {A n : Nat} {cls most : Nat → Nat} (hc : ∀ i, i < n → cls i < A) : Rk n (partR A n cls most) := by
 refine Rk.of_step (fun P x => decide (clsN n cls P (cls x) < most (cls x))) (fun {P Q} h => ?_) ?_ (fun {P x} hx hp => ?_) (fun {P x y} hx hy hxy hp hq h => ?_)
 ·refine O7_ fun c _ => ?_
  unfold clsN
  rw [K0_ fun i hi => by rw [h i hi]]
 ·refine Zy8 fun c _ => ?_
  unfold clsN
  rw [show (fun i => noneP i && cls i == c) = noneP from by funext i; simp [noneP], F0_, Nat.min_zero]
 ·refine Ze8 (b := cls x) (hc x hx) (fun c hne => ?_) ?_
  ·show min _ _ = min _ _
   rw [M9_ hx hp, if_neg (fun e => hne e.symm), Nat.add_zero]
  ·show min _ _ = min _ _ + _
   rw [M9_ hx hp, if_pos rfl]
   split
   ·rename_i h; rw [decide_eq_true_iff] at h; omega
   ·rename_i h; rw [decide_eq_true_iff] at h; omega
 ·rw [decide_eq_true_iff] at h ⊢
  rw [M9_ hx hp] at h
  omega
def vecP (n : Nat) (v : Nat → Nat → Int) (P : Nat → Bool) : List (Nat → Int) := (pickN n P).map v
noncomputable def linR (p : Int) (R n : Nat) (v : Nat → Nat → Int) (P : Nat → Bool) : Nat := L.rk p R (vecP n v P)
theorem Yv9 {n : Nat} {v : Nat → Nat → Int} {P : Nat → Bool} {x : Nat} (hx : x < n) (u : Nat → Int) : u ∈ vecP n v (insP P x) ↔ u ∈ v x :: vecP n v P := by
 unfold vecP
 rw [List.mem_map, List.mem_cons, List.mem_map]
 constructor
 ·rintro ⟨i, hi, rfl⟩
  rcases (K1_ hx).1 hi with rfl | hi
  ·exact .inl rfl
  ·exact .inr ⟨i, hi, rfl⟩
 ·rintro (rfl | ⟨i, hi, rfl⟩)
  ·exact ⟨x, (K1_ hx).2 (.inl rfl), rfl⟩
  ·exact ⟨i, (K1_ hx).2 (.inr hi), rfl⟩
theorem Vy8 {p : Int} {R n : Nat} (hf : L.Fld p) (v : Nat → Nat → Int) : Rk n (linR p R n v) := by
 classical
 refine Rk.of_step (fun P x => decide (¬ L.InSp p R (vecP n v P) (v x))) (fun {P Q} h => ?_) ?_ (fun {P x} hx hp => ?_) (fun {P x y} hx hy hxy hp hq h => ?_)
 ·unfold linR vecP; rw [Yv7 h]
 ·unfold linR vecP; rw [Zk4, List.map_nil, L.rk_nil]
 ·unfold linR
  rw [L.rk_perm hf (Yv9 hx)]
  by_cases h : L.InSp p R (vecP n v P) (v x)
  ·rw [L.rk_cons_in h, if_neg (by simpa using h)]; rfl
  ·rw [L.rk_cons_out h, if_pos (by simpa using h)]
 ·rw [decide_eq_true_iff] at h ⊢
  exact fun hc => h (L.sp_mono (fun u hu => (Yv9 hx u).2 (List.mem_cons_of_mem _ hu)) hc)
def CovP (n : Nat) (g : Nat → Nat → Prop) (P A B : Nat → Bool) : Prop := ∀ i r, i < n → P i = true → g i r → A i = true ∨ B r = true
def CovC (n R : Nat) (g : Nat → Nat → Prop) (P : Nat → Bool) (k : Nat) : Prop := ∃ A B, CovP n g P A B ∧ cnt A n + cnt B R ≤ k
theorem Xj8 {p : Nat → Prop} : ∀ k, p k → ∃ m, p m ∧ ∀ j, p j → m ≤ j := by
 intro k
 induction k using Nat.strongRecOn with
 | ind k ih =>
  intro hk
  by_cases h : ∃ j, j < k ∧ p j
  ·obtain ⟨j, hj, hp⟩ := h
   exact ih j hj hp
  ·exact ⟨k, hk, fun j hj => Nat.le_of_not_lt fun hl => h ⟨j, hl, hj⟩⟩
theorem Yn3 (n R : Nat) (g : Nat → Nat → Prop) (P : Nat → Bool) : ∃ m, CovC n R g P m ∧ ∀ j, CovC n R g P j → m ≤ j :=
 Xj8 (cnt allP n + cnt noneP R) ⟨allP, noneP, fun _ _ _ _ _ => .inl rfl, le_refl _⟩
noncomputable def covR (n R : Nat) (g : Nat → Nat → Prop) (P : Nat → Bool) : Nat := Classical.choose (Yn3 n R g P)
theorem F1_ (n R : Nat) (g : Nat → Nat → Prop) (P : Nat → Bool) : CovC n R g P (covR n R g P) := (Classical.choose_spec (Yn3 n R g P)).1
theorem H7_ {n R : Nat} {g : Nat → Nat → Prop} {P : Nat → Bool} {k : Nat} (h : CovC n R g P k) : covR n R g P ≤ k := (Classical.choose_spec (Yn3 n R g P)).2 k h
def b01 (b : Bool) : Nat := if b = true then 1 else 0
theorem Zs9 {p q r s : Nat → Bool} : ∀ {n : Nat}, (∀ i, i < n → b01 (p i) + b01 (q i) ≤ b01 (r i) + b01 (s i)) → cnt p n + cnt q n ≤ cnt r n + cnt s n
 | 0, _ => by simp [cnt]
 | n + 1, h => by
  have ih := Zs9 (p := p) (q := q) (r := r) (s := s) (n := n) fun i hi => h i (by omega)
  have hn := h n (by omega)
  unfold b01 at hn
  rw [X3_, X3_, X3_, X3_]
  omega
theorem Zk5 (n R : Nat) (g : Nat → Nat → Prop) : Rk n (covR n R g) := by
 refine ⟨fun {P Q} h => ?_, ?_, fun {P x} hx hp => ?_, fun {P x} hx hp => ?_, fun {P x y} hx hy hxy hp hq => ?_⟩
 ·have key : ∀ {P Q : Nat → Bool}, (∀ i, i < n → P i = Q i) → covR n R g P ≤ covR n R g Q := fun {P Q} h => by
   obtain ⟨A, B, hc, hk⟩ := F1_ n R g Q
   exact H7_ ⟨A, B, fun i r hi hp => hc i r hi (by rw [← h i hi]; exact hp), hk⟩
  exact Nat.le_antisymm (key h) (key fun i hi => (h i hi).symm)
 ·have h0 : CovP n g noneP noneP noneP := fun _ _ _ hp => absurd hp (by simp [noneP])
  have := H7_ (n := n) (R := R) (g := g) (P := noneP) (k := 0) ⟨noneP, noneP, h0, by rw [F0_, F0_]; exact le_refl _⟩
  omega
 ·obtain ⟨A, B, hc, hk⟩ := F1_ n R g (insP P x)
  exact H7_ ⟨A, B, fun i r hi hp => hc i r hi (by unfold insP; rw [hp]; simp), hk⟩
 ·obtain ⟨A, B, hc, hk⟩ := F1_ n R g P
  refine H7_ ⟨insP A x, B, fun i r hi hp hg => ?_, ?_⟩
  ·by_cases e : i = x
   ·rw [e, Q2_]; exact .inl rfl
   ·rw [V7_ e] at hp ⊢; exact hc i r hi hp hg
  ·have := (F8_ n).one' A hx
   omega
 ·obtain ⟨A1, B1, h1, k1⟩ := F1_ n R g (insP P x)
  obtain ⟨A2, B2, h2, k2⟩ := F1_ n R g (insP P y)
  have hP : ∀ i, insP (insP P x) y i = (i == y || (i == x || P i)) := fun i => rfl
  let T1 : Nat → Bool := fun i => insP P x i && !A1 i
  let T2 : Nat → Bool := fun i => insP P y i && !A2 i
  have c1 : CovC n R g (insP (insP P x) y) (cnt (fun i => insP (insP P x) y i && !(T1 i || T2 i)) n + cnt (orP B1 B2) R) := by
   refine ⟨_, _, fun i r hi hp hg => ?_, le_refl _⟩
   rw [hp, Bool.true_and]
   cases t1 : T1 i
   ·cases t2 : T2 i
    ·exact .inl rfl
    ·right
     simp only [T2, Bool.and_eq_true, Bool.not_eq_true'] at t2
     have := (h2 i r hi t2.1 hg).resolve_left (by rw [t2.2]; decide)
     unfold orP; rw [this]; simp
   ·right
    simp only [T1, Bool.and_eq_true, Bool.not_eq_true'] at t1
    have := (h1 i r hi t1.1 hg).resolve_left (by rw [t1.2]; decide)
    unfold orP; rw [this]; simp
  have c2 : CovC n R g P (cnt (fun i => P i && !(T1 i && T2 i)) n + cnt (andP B1 B2) R) := by
   refine ⟨_, _, fun i r hi hp hg => ?_, le_refl _⟩
   rw [hp, Bool.true_and]
   cases t1 : T1 i
   ·exact .inl rfl
   ·cases t2 : T2 i
    ·exact .inl rfl
    ·right
     simp only [T1, Bool.and_eq_true, Bool.not_eq_true'] at t1
     simp only [T2, Bool.and_eq_true, Bool.not_eq_true'] at t2
     have a1 := (h1 i r hi t1.1 hg).resolve_left (by rw [t1.2]; decide)
     have a2 := (h2 i r hi t2.1 hg).resolve_left (by rw [t2.2]; decide)
     unfold andP; rw [a1, a2]; rfl
  have d1 := H7_ c1
  have d2 := H7_ c2
  have e1 : cnt (fun i => insP (insP P x) y i && !(T1 i || T2 i)) n + cnt (fun i => P i && !(T1 i && T2 i)) n ≤ cnt A1 n + cnt A2 n := Zs9 fun i _ => by
   simp only [T1, T2, insP, b01]
   by_cases ex : i = x
   ·have ey : (i == y) = false := by rw [ex]; simpa using hxy
    have hpi : P i = false := by rw [ex]; exact hp
    simp only [ey, hpi, show (i == x) = true from by simpa using ex]
    cases A1 i <;> cases A2 i <;> simp
   ·have ex' : (i == x) = false := by simpa using ex
    by_cases ey : i = y
    ·have hqi : P i = false := by rw [ey]; exact hq
     simp only [ex', hqi, show (i == y) = true from by simpa using ey]
     cases A1 i <;> cases A2 i <;> simp
    ·have ey' : (i == y) = false := by simpa using ey
     simp only [ex', ey']
     cases P i <;> cases A1 i <;> cases A2 i <;> simp
  have e2 : cnt (orP B1 B2) R + cnt (andP B1 B2) R ≤ cnt B1 R + cnt B2 R := Zs9 fun i _ => by
   simp only [orP, andP, b01]
   have h1 : B1 i = true ∨ B1 i = false := by cases B1 i <;> simp
   have h2 : B2 i = true ∨ B2 i = false := by cases B2 i <;> simp
   rcases h1 with h1 | h1 <;> rcases h2 with h2 | h2 <;> simp [h1, h2]
  omega
end Go.Proofs.YtgadbnbhgpehjaaGreatDoor.Wp
