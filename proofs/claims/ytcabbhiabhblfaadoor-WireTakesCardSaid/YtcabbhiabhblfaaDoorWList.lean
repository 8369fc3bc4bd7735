/- The program's (*wire.Reader).list, Nums and Ints, walked. -/
import Derived.Test.YtcabbhiabhblfaaDoorWTake
import Derived.BigRegion
import Derived.RegionTactic
import Derived.ChangeAlike
import Derived.StillTailTactics
import Derived.Deep.OwnRows
import Derived.Laws.MakeOwn
import Derived.IntWalk
namespace Go.Proofs.YtcabbhiabhblfaaDoor
open Go.RowKit
namespace Wp

/-- So many numbers are taken. -/
def takeL (f : List UInt8 → St → Int × St) (T : List UInt8) : Nat → St → List Int → Option (List Int) × St
  | 0, st, acc => (some acc, st)
  | k + 1, st, acc => match (f T st).2.2 with
    | some _ => (none, (f T st).2)
    | none => takeL f T k (f T st).2 (acc ++ [(f T st).1])

/-- How many, and these. -/
def listS (f : List UInt8 → St → Int × St) (T : List UInt8) (most : Int) (st : St) : Option (List Int) × St :=
  match st.2 with
  | some _ => (none, st)
  | none => match (stepN T st).2.2 with
    | some _ => (none, (stepN T st).2)
    | none => if most < ((stepN T st).1 : Nat) then (none, ((stepN T st).2.1, some (st.1, 3))) else takeL f T (stepN T st).1 (stepN T st).2 []

/-- A list told: nothing, or a row of the call's own. -/
def Told (base : Nat) (r : Option (List Int)) (v : Value) (w : World) : Prop :=
  match r with
  | none => v = .slice none 0 0
  | some l => w.ownsRow base 3 1 v l.length (l.map (Value.int .i64))

/-- What a call of Nums or Ints comes to. -/
def Listed (E : Nat → Addr) (B : Nat) (T : ByteArray) (b : Nat) (r : Option (List Int) × St) (w : World) (e : Ending) (w' : World) : Prop :=
  ∃ v, e = .returned v ∧ Told w.heap.size r.1 v w' ∧ Left E B T b r.2 w w'

/-- What the method that takes one number does. -/
def One (E : Nat → Addr) (B : Nat) (T : ByteArray) (b K : Nat) (f : List UInt8 → St → Int × St) : Prop :=
  ∀ (st : St) (w : World), Met E B w → Rd E T b st w → st.1 ≤ T.size → Calls Tryd.prog K #[.pointer (some ⟨b, 0, none⟩)] w (Took E B T b (f T.data.toList st).1 (f T.data.toList st).2 w)

set_option maxHeartbeats 2000000 in
set_option maxRecDepth 100000 in
theorem list_any (E : Nat → Addr) (B : Nat) (T : ByteArray) (b K : Nat) (f : List UInt8 → St → Int × St) (most : Int) (p n sz : Nat) (w : World) (hK : K = 23 ∨ K = 24)
    (hOne : One E B T b K f) (hM : Met E B w) (hB : B ≤ b) (hr : Rd E T b (p, none) w) (hp : p ≤ T.size) (hT : T.size ≤ 1099511627776)
    (hf : ∀ st : St, st.1 ≤ T.size → (f T.data.toList st).2.1 ≤ T.size ∧ ((f T.data.toList st).2.2 = none → st.1 < (f T.data.toList st).2.1))
    (hd : dec 8 0 0 (T.data.toList.drop p) = (n, sz, 0)) (hmost : ¬ most < (n : Int)) (hn : n ≤ 1125899906842624) (hsz : p + sz ≤ T.size) :
    Calls Tryd.prog 35 #[.pointer (some ⟨b, 0, none⟩), .int .i64 most, .func (.func K) #[.pointer (some ⟨b, 0, none⟩)] #[]] w
      (Listed E B T b (takeL f T.data.toList n (p + sz, none) []) w) := by
  have c1 : w.cell? ⟨b, 1, none⟩ = some (.int .i64 p) := hr.cell 1
  have c2 : w.cell? ⟨b, 2, none⟩ = some .nilIface := hr.cell 2
  have Hone := Lib.hid hOne
  clear hOne
  have hc := rnum_ok E B T b p n sz w hM hr hp hT hd
  have Hd := Lib.hid hd
  clear hd
  go_enter Tryd.func35, Tryd.ntmps35
  go_wp2_with fail
  refine hc.mono ?_
  rintro e w1 ⟨rfl, hl⟩
  have d0 : w1.cell? ⟨b, 0, none⟩ = some (.string T) := hl.rd.cell 0
  have d1 : w1.cell? ⟨b, 1, none⟩ = some (.int .i64 ((p + sz : Nat) : Int)) := hl.rd.cell 1
  have d2 : w1.cell? ⟨b, 2, none⟩ = some .nilIface := hl.rd.cell 2
  have hcast : ((p + sz : Nat) : Int) = (p : Int) + sz := by omega
  rw [hcast] at d1
  clear hcast
  have Hf := Lib.hid hf
  clear hf
  have hwb : b < w.heap.size := hr.lt
  obtain ⟨cap, X, hX, hcap, hmk, hmx⟩ : ∃ (cap : Nat) (X : Int), X = (cap : Int) ∧ cap ≤ 1099511627776 ∧ (∀ W : World, (Instr.makeSlice 22 (.int .i64 0) (.int .i64 X)).run Tryd.prog W = .ok (.slice (some ⟨W.heap.size, 0, none⟩) 0 cap) (W.alloc (.cells (madeCells #[.int .i64 0] cap) 3)))
      ∧ ((n : Int) ≤ (T.size : Int) - ((p : Int) + sz) ∧ X = n ∨ (T.size : Int) - ((p : Int) + sz) < n ∧ X = (T.size : Int) - ((p : Int) + sz)) := by
    have key : ∀ (c : Nat), c ≤ 1099511627776 → ∀ W : World, (Instr.makeSlice 22 (.int .i64 0) (.int .i64 (c : Int))).run Tryd.prog W = .ok (.slice (some ⟨W.heap.size, 0, none⟩) 0 c) (W.alloc (.cells (madeCells #[.int .i64 0] c) 3)) := by
      intro c h W
      obtain ⟨i0, hi, hz0, hz1, hz2⟩ := info_parts info3
      have hr := run_make (P := Tryd.prog) W 22 3 i0 (.int .i64 0) (by kernel_rfl) hi hz0 .i64 .i64 0 c (by omega) (by omega) (by rw [hz2]; omega) (by omega)
      simp only [Int.toNat_natCast, hz1, Nat.mul_one] at hr
      exact hr
    by_cases h : n ≤ T.size - (p + sz)
    · exact ⟨n, n, rfl, by omega, key n (by omega), .inl ⟨by omega, rfl⟩⟩
    · exact ⟨T.size - (p + sz), ((T.size - (p + sz) : Nat) : Int), rfl, by omega, key _ (by omega), .inr ⟨by omega, by omega⟩⟩
  have HX := Lib.hid hX
  clear hX
  have hm : IntKind.i64.wrap ((T.size : Int) - ((p : Int) + sz)) = (T.size : Int) - ((p : Int) + sz) := IntWalk.i64_in _ (by omega)
  have d1b : b < w1.heap.size := hl.rd.lt
  obtain ⟨i0, hi, hz0, hz1, hz2⟩ := info_parts info3
  rcases hmx with ⟨hle, rfl⟩ | ⟨hlt, hXe⟩
  all_goals try subst hXe
  all_goals
    go_wp2
    go_region
    clear hm hmk d0 d1 d2 c1 c2 hc
    have hw2 : (w1.alloc (.cells (madeCells #[.int .i64 0] cap) 3)).ownsRow w.heap.size 3 1 (.slice (some ⟨w1.heap.size, 0, none⟩) 0 cap) 0 [] :=
      World.ownsRow_made _ _ _ (by have := hl.only.size; omega) (by unfold maxLen; omega) (by simp [madeCells])
    have ho2 : w.grownBy (w1.alloc (.cells (madeCells #[.int .i64 0] cap) 3)).drew (some b) := only_drew (only_alloc hl.only _)
    have hr2 : Rd E T b (p + sz, none) (w1.alloc (.cells (madeCells #[.int .i64 0] cap) 3)).drew := (hl.rd.alloc _).drew
    have hw3 := hw2.drew
    clear hw2
    generalize hwe : (w1.alloc (.cells (madeCells #[.int .i64 0] cap) 3)).drew = w2 at *
    generalize hve : (Value.slice (some ⟨w1.heap.size, 0, none⟩) 0 cap) = v2 at *
    clear hwe hve
    have hsp : p + sz ≤ T.size := hsz
    go_wp2
    go_loopw [9, 62] (fun vl vk wr => ∃ (k : Nat) (st : St) (acc : List Int), vk = .int .i64 k ∧ k ≤ n ∧ acc.length = k ∧ k ≤ st.1 ∧ st.1 ≤ T.size ∧ st.2 = none ∧ wr.ownsRow w.heap.size 3 1 vl k (acc.map (Value.int .i64)) ∧ w.grownBy wr (some b) ∧ Rd E T b st wr
        ∧ takeL f T.data.toList n (p + sz, none) [] = takeL f T.data.toList (n - k) st acc)
      (fun _ vk _ => n - (intOf vk).toNat)
    case atStart => exact ⟨0, (p + sz, none), [], rfl, Nat.zero_le _, rfl, Nat.zero_le _, hsp, rfl, hw3, ho2, hr2, rfl⟩
    case round =>
      obtain ⟨k, st, acc, rfl, hkn, hacc, hks, hst, hst2, hown, hgr, hrd, htk⟩ := hrel
      have Htk := Lib.hid htk
      have Hacc := Lib.hid hacc
      have Hst2 := Lib.hid hst2
      clear htk hacc hst2
      have hBw : B ≤ w.heap.size := by omega
      have hMr : Met E B wr := hM.below (only_below hgr hBw hB)
      by_cases hlt : k < n
      · obtain ⟨r, hrf⟩ : ∃ r, f T.data.toList st = r := ⟨_, rfl⟩
        have hcall := Hone.out st wr hMr hrd hst
        have hff := Hf.out st hst
        rw [hrf] at hcall hff
        obtain ⟨m, q, x⟩ := r
        have Hr := Lib.hid hrf
        clear hrf
        simp only at hcall hff
        have htn : ∃ j, n - k = j + 1 := ⟨n - k - 1, by omega⟩
        obtain ⟨j, hj⟩ := htn
        have Hj := Lib.hid hj
        clear hj
        rcases hK with rfl | rfl
        all_goals
          go_wp2_with fail
          refine hcall.mono ?_
          rintro e w3 ⟨rfl, hl3⟩
          have hgr3 : w.grownBy w3 (some b) := only_trans hgr hl3.only
          cases x with
          | some x =>
            have e2 : w3.cell? ⟨b, 2, none⟩ = some (errV E (some x)) := hl3.rd.cell 2
            unfold errV at e2
            go_wp2
            go_ret
            refine ⟨_, rfl, ?_, ?_⟩
            · rw [Htk.out, Hj.out, takeL, Hr.out]; exact rfl
            · rw [Htk.out, Hj.out, takeL, Hr.out]; exact ⟨hgr3, hl3.rd⟩
          | none =>
            have e2 : w3.cell? ⟨b, 2, none⟩ = some .nilIface := hl3.rd.cell 2
            have hq := hff.2 rfl
            have hown3 : w3.ownsRow w.heap.size 3 1 u9 k (acc.map (Value.int .i64)) := hown.kept hl3.only (.inr (fun h => by have := (hown.lt b h).1; omega))
            go_wp2_with (at_builtin; refine wpList_append_own _ rfl _ _ 22 rfl w.heap.size 3 i0 (.int .i64 0) 1 8 (by kernel_rfl) hi hz0 hz1 hz2 rfl (by decide) _ _ _ rfl (hown3.alloc _) ⟨w3.heap.size, 0, none⟩ 1 1 [Value.int .i64 m] rfl rfl ?c1 ?c2 ?c3 ?c4 ?c5 ?_)
            case c1 =>
              intro j u hj
              match j, hj with
              | 0, hj => simp at hj; subst hj; simp [Addr.add]
            case c2 => intro u hu; simp at hu; subst hu; rfl
            case c3 => unfold maxLen; omega
            case c4 => omega
            case c5 => have := hgr3.size; simp; omega
            intro v' w4 hown' hgrow _
            have hgr4 : w.grownBy w4 (some b) := only_grown (only_alloc hgr3 _) hgrow (fun i hi => (hown3.lt i hi).1)
            have hrd4 : Rd E T b (q, none) w4 := (hl3.rd.alloc _).grown hgrow (fun h => by have := (hown3.lt b h.symm).1; omega)
            go_wp2
            go_roundw
            case rel =>
              refine ⟨k + 1, (q, none), acc ++ [m], by go_num, by omega, by rw [List.length_append, Hacc.out]; rfl, by show k + 1 ≤ q; omega, hff.1, rfl, ?_, hgr4, hrd4, ?_⟩
              · rw [List.map_append]; exact hown'
              · rw [Htk.out, Hj.out, takeL, Hr.out, show n - (k + 1) = j from by have := Hj.out; omega]
            case measure => simp [intOf]; omega
      · have hke : k = n := by omega
        subst hke
        go_wp2
        go_ret
        refine ⟨_, rfl, ?_, ?_⟩
        · rw [Htk.out, Nat.sub_self, takeL]
          show wr.ownsRow _ _ _ _ _ _
          rw [Hacc.out]
          exact hown
        · rw [Htk.out, Nat.sub_self, takeL]
          exact ⟨hgr, hrd⟩
set_option maxHeartbeats 400000 in
theorem list_err (E : Nat → Addr) (T : ByteArray) (b p K : Nat) (x : Nat × Nat) (most : Int) (w : World) (hr : Rd E T b (p, some x) w) :
    Calls Tryd.prog 35 #[.pointer (some ⟨b, 0, none⟩), .int .i64 most, .func (.func K) #[.pointer (some ⟨b, 0, none⟩)] #[]] w fun e w' => e = .returned (.slice none 0 0) ∧ w = w' := by
  have c2 : w.cell? ⟨b, 2, none⟩ = some (errV E (some x)) := hr.cell 2
  unfold errV at c2
  go_enter Tryd.func35, Tryd.ntmps35
  go_wp2
  go_ret
  exact ⟨rfl, rfl⟩

theorem list_nil (K : Nat) (most : Int) (w : World) :
    Calls Tryd.prog 35 #[.pointer none, .int .i64 most, .func (.func K) #[.pointer none] #[]] w fun e w' => e = .returned (.slice none 0 0) ∧ w = w' := by
  go_enter Tryd.func35, Tryd.ntmps35
  go_wp2
  go_ret
  exact ⟨rfl, rfl⟩

set_option maxHeartbeats 400000 in
theorem list_bad (E : Nat → Addr) (B : Nat) (T : ByteArray) (b p k K : Nat) (most : Int) (w : World) (hM : Met E B w) (hr : Rd E T b (p, none) w) (hp : p ≤ T.size) (hT : T.size ≤ 1099511627776)
    (hk : k = 0 ∨ k = 1) (hd : dec 8 0 0 (T.data.toList.drop p) = (0, 0, k + 1)) :
    Calls Tryd.prog 35 #[.pointer (some ⟨b, 0, none⟩), .int .i64 most, .func (.func K) #[.pointer (some ⟨b, 0, none⟩)] #[]] w
      (Listed E B T b (none, (p, some (p, k + 1))) w) := by
  have c1 : w.cell? ⟨b, 1, none⟩ = some (.int .i64 p) := hr.cell 1
  have c2 : w.cell? ⟨b, 2, none⟩ = some .nilIface := hr.cell 2
  have hc := rnum_bad E B T b p k w hM hr hp hT hk hd
  clear hd hk
  go_enter Tryd.func35, Tryd.ntmps35
  go_wp2_with fail
  refine hc.mono ?_
  rintro e w1 ⟨rfl, hl⟩
  have d2 : w1.cell? ⟨b, 2, none⟩ = some (errV E (some (p, k + 1))) := hl.rd.cell 2
  unfold errV at d2
  go_wp2
  go_ret
  exact ⟨_, rfl, rfl, hl⟩

set_option maxHeartbeats 400000 in
theorem list_many (E : Nat → Addr) (B : Nat) (T : ByteArray) (b p n sz K : Nat) (most : Int) (w : World) (hM : Met E B w) (hB : B ≤ b) (hr : Rd E T b (p, none) w) (hp : p ≤ T.size) (hT : T.size ≤ 1099511627776)
    (hd : dec 8 0 0 (T.data.toList.drop p) = (n, sz, 0)) (hmost : most < (n : Int)) :
    Calls Tryd.prog 35 #[.pointer (some ⟨b, 0, none⟩), .int .i64 most, .func (.func K) #[.pointer (some ⟨b, 0, none⟩)] #[]] w
      (Listed E B T b (none, (p + sz, some (p, 3))) w) := by
  have c1 : w.cell? ⟨b, 1, none⟩ = some (.int .i64 p) := hr.cell 1
  have c2 : w.cell? ⟨b, 2, none⟩ = some .nilIface := hr.cell 2
  have hc := rnum_ok E B T b p n sz w hM hr hp hT hd
  have hwb : b < w.heap.size := hr.lt
  clear hd
  go_enter Tryd.func35, Tryd.ntmps35
  go_wp2_with fail
  refine hc.mono ?_
  rintro e w1 ⟨rfl, hl⟩
  have hM1 : Met E B w1 := hM.below (only_below hl.only (by omega) hB)
  have d1 : w1.cell? ⟨b, 1, none⟩ = some (.int .i64 ((p + sz : Nat) : Int)) := hl.rd.cell 1
  have d2 : w1.cell? ⟨b, 2, none⟩ = some .nilIface := hl.rd.cell 2
  have f2 : w1.frozen? ⟨b, 2, none⟩ = false := hl.rd.frozen 2
  have g3 := hM1.g3
  go_wp2
  go_ret
  refine ⟨_, rfl, rfl, only_setCell hl.only (.inl rfl) _, ?_⟩
  exact hl.rd.set_ 2 _

/-- The list, whatever the reader is at. -/
theorem list_all (E : Nat → Addr) (B : Nat) (T : ByteArray) (b K : Nat) (f : List UInt8 → St → Int × St) (most : Int) (st : St) (w : World) (hK : K = 23 ∨ K = 24)
    (hOne : One E B T b K f) (hM : Met E B w) (hB : B ≤ b) (hr : Rd E T b st w) (hp : st.1 ≤ T.size) (hT : T.size ≤ 1099511627776)
    (hf : ∀ st : St, st.1 ≤ T.size → (f T.data.toList st).2.1 ≤ T.size ∧ ((f T.data.toList st).2.2 = none → st.1 < (f T.data.toList st).2.1)) :
    Calls Tryd.prog 35 #[.pointer (some ⟨b, 0, none⟩), .int .i64 most, .func (.func K) #[.pointer (some ⟨b, 0, none⟩)] #[]] w
      (Listed E B T b (listS f T.data.toList most st) w) := by
  obtain ⟨p, x⟩ := st
  cases x with
  | some x =>
    exact (list_err E T b p K x most w hr).mono fun e w' ⟨h1, h2⟩ => ⟨_, h1, rfl, by subst h2; exact ⟨World.grownBy.refl _ _, hr⟩⟩
  | none =>
    rcases dec_kinds 8 0 0 (T.data.toList.drop p) with ⟨v, sz, h, h1, h2, h3, h4⟩ | h | h
    · have hp' : p ≤ T.size := hp
      have hsz : p + sz ≤ T.size := by
        rw [List.length_drop] at h2
        have e : T.data.toList.length = T.size := by simp
        omega
      by_cases hm : most < (v : Int)
      · have e : listS f T.data.toList most (p, none) = (none, (p + sz, some (p, 3))) := by
          simp only [listS]
          rw [stepN_ok _ _ _ _ h]
          simp only
          rw [if_pos hm]
        rw [e]
        exact list_many E B T b p v sz K most w hM hB hr hp' hT h hm
      · have e : listS f T.data.toList most (p, none) = takeL f T.data.toList v (p + sz, none) [] := by
          simp only [listS]
          rw [stepN_ok _ _ _ _ h]
          simp only
          rw [if_neg hm]
        rw [e]
        exact list_any E B T b K f most p v sz w hK hOne hM hB hr hp' hT hf h hm h4 hsz
    · have e : listS f T.data.toList most (p, none) = (none, (p, some (p, 0 + 1))) := by
        simp only [listS]
        rw [stepN_bad _ _ 0 h]
      rw [e]
      exact list_bad E B T b p 0 K most w hM hr hp hT (.inl rfl) h
    · have e : listS f T.data.toList most (p, none) = (none, (p, some (p, 1 + 1))) := by
        simp only [listS]
        rw [stepN_bad _ _ 1 h]
      rw [e]
      exact list_bad E B T b p 1 K most w hM hr hp hT (.inr rfl) h

theorem size_len (T : ByteArray) : T.data.toList.length = T.size := by simp

def stepNI (T : List UInt8) (st : St) : Int × St := (((stepN T st).1 : Nat), (stepN T st).2)

theorem stepN_more (T : List UInt8) (st : St) (h : st.1 ≤ T.length) (h0 : (stepN T st).2.2 = none) : st.1 < (stepN T st).2.1 := by
  obtain ⟨p, x⟩ := st
  cases x with
  | some x => simp [stepN] at h0
  | none =>
    rcases dec_kinds 8 0 0 (T.drop p) with ⟨v, sz, e, h1, h2, h3, h4⟩ | e | e
    · rw [stepN_ok _ _ _ _ e]; show p < p + sz; omega
    · rw [stepN_bad _ _ 0 e] at h0; simp at h0
    · rw [stepN_bad _ _ 1 e] at h0; simp at h0

theorem rnums_any (E : Nat → Addr) (B : Nat) (T : ByteArray) (b : Nat) (most : Int) (st : St) (w : World) (hM : Met E B w) (hB : B ≤ b) (hr : Rd E T b st w) (hp : st.1 ≤ T.size) (hT : T.size ≤ 1099511627776) :
    Calls Tryd.prog 25 #[.pointer (some ⟨b, 0, none⟩), .int .i64 most] w (Listed E B T b (listS stepNI T.data.toList most st) w) := by
  have hc := list_all E B T b 23 stepNI most st w (.inl rfl) (fun st w h1 h2 h3 => rnum_any E B T b st w h1 h2 h3 hT) hM hB hr hp hT
    (fun st h => ⟨by have h2 := (stepN_in T.data.toList st (by rw [size_len]; exact h)).1; rw [size_len] at h2; exact h2, stepN_more T.data.toList st (by simpa using h)⟩)
  have Hc := Lib.hid hc
  clear hc
  have hmf : ∀ (fn : Fn) (first cap : Array Value) (w : World), (Instr.makeFunc fn first cap).run Tryd.prog w = .ok (.func fn first cap) w := fun _ _ _ _ => rfl
  go_enter Tryd.func25, Tryd.ntmps25
  go_wp2_with fail
  refine Hc.out.mono ?_
  rintro e w1 ⟨v, rfl, hl⟩
  go_wp2
  go_ret
  exact ⟨v, rfl, hl⟩

theorem rints_any (E : Nat → Addr) (B : Nat) (T : ByteArray) (b : Nat) (most : Int) (st : St) (w : World) (hM : Met E B w) (hB : B ≤ b) (hr : Rd E T b st w) (hp : st.1 ≤ T.size) (hT : T.size ≤ 1099511627776) :
    Calls Tryd.prog 26 #[.pointer (some ⟨b, 0, none⟩), .int .i64 most] w (Listed E B T b (listS stepI T.data.toList most st) w) := by
  have hc := list_all E B T b 24 stepI most st w (.inr rfl) (fun st w h1 h2 h3 => rint_any E B T b st w h1 h2 h3 hT) hM hB hr hp hT
    (fun st h => ⟨by have h2 := (stepN_in T.data.toList st (by rw [size_len]; exact h)).1; rw [size_len] at h2; exact h2, stepN_more T.data.toList st (by simpa using h)⟩)
  have Hc := Lib.hid hc
  clear hc
  have hmf : ∀ (fn : Fn) (first cap : Array Value) (w : World), (Instr.makeFunc fn first cap).run Tryd.prog w = .ok (.func fn first cap) w := fun _ _ _ _ => rfl
  go_enter Tryd.func26, Tryd.ntmps26
  go_wp2_with fail
  refine Hc.out.mono ?_
  rintro e w1 ⟨v, rfl, hl⟩
  go_wp2
  go_ret
  exact ⟨v, rfl, hl⟩

end Wp
end Go.Proofs.YtcabbhiabhblfaaDoor
