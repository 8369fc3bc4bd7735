/- Regions of several orders by one walk; the program's together, takes, part, walked; and its fits, where what lies within counts together. -/
import Derived.Test.YtgadbnbhgpehjaaGreatDoorZO
import Derived.BigQuiet
import Derived.IntWalk
import Derived.Deep.QuietTactic
import Derived.Deep.RegionHeld3
set_option maxHeartbeats 8000000
set_option maxRecDepth 100000
open Go.Lib (hid)
namespace Go.Proofs.YtgadbnbhgpehjaaGreatDoor
open Go.RowKit
namespace Wp
theorem Z6_ {P : Program} {id : Nat} {Q : Exit → Act → World → Prop} {a : Act} {w : World} {l : List Oper} (B : Nat) (w0 : World) (hm : P.follows .mixedOrders = true) (hB : Region.lexB .any l.toArray = true) (hC : Below B w0 w)
  (h : wpQuiet P l.toArray (Below B w0) (fun a' => ∀ w', Below B w0 w' → Q .normal a' w') l a) : (Code.region id l.toArray true).wp P Q a w :=
 wp_region_quiet (C := Below B w0) hm hB ⟨hC.os, hC.tape, hC.output, hC.size, hC.block⟩ (by simpa using h)
theorem X7_ {w0 : World} {B : Nat} {p : Addr} {v : Value} (h : w0.cell? p = some v) (hp : p.block < B) : ∀ W, Below B w0 W → W.cell? p = some v := fun _ hW => (hW.cell hp).trans h
theorem Yp5 (x : Int) : IntKind.i64.wrap x = wrap64 x := IntWalk.i64_left x
theorem Yq0 {l : List Mat} {i : Nat} (h : i < l.length) : tog (l.take (i + 1)) = IntKind.i64.wrap (tog (l.take i) + (l.getD i default).n) := by
 rw [Zv3 l i default h]
 unfold tog
 rw [List.foldl_append]
 rfl
theorem Zm4 (v : Value) (i : List Mat) (w : World) (hi : MatL w w.heap.size v i) (hlen : i.length ≤ 1000) : Calls Tryz.prog 172 #[v] w (Tells w (tog i)) := by
 obtain ⟨A, c, rfl, _, hk⟩ := hi
 have Hk := hid hk
 have hlen' : (i.length : Int) ≤ 1000 := by omega
 clear hk hlen
 go_enter Tryz.func172, Tryz.ntmps172
 go_wp2
 go_loopw [3, 8] (fun vn vk wr => ∃ k : Nat, vk = .int .i64 k ∧ k ≤ i.length ∧ vn = .int .i64 (tog (i.take k)) ∧ Below w.heap.size w wr) (fun _ vk _ => i.length - (intOf vk).toNat)
 case atStart => exact ⟨0, rfl, Nat.zero_le _, rfl, Below.refl _ _⟩
 case round =>
  obtain ⟨k, rfl, hk, rfl, hbr⟩ := hrel
  have Hbr := hid hbr
  by_cases hlt : k < i.length
  ·have hltI : (k : Int) < (i.length : Int) := by omega
   obtain ⟨ad, u, hA, hab, hsix, hmv⟩ := Hk.out k hlt
   subst hA
   have hsix1 := hsix.below hbr (by rw [Z2_]; exact hab)
   obtain ⟨lv, iv, hu, ⟨Al, cl, rfl, _⟩, ⟨Ai, ci, rfl, _⟩⟩ := hmv.open
   obtain ⟨x0, x1, x2, x3, x4, x5, hv, s0, s1, s2, s3, s4, s5⟩ := hsix1
   rw [hu] at hv
   injection hv with hv
   injection hv with hv
   injection hv with e0 hv
   injection hv with e1 hv
   injection hv with e2 hv
   injection hv with e3 hv
   injection hv with e4 hv
   injection hv with e5 hv
   subst e0 e1 e2 e3 e4 e5
   have Hm := hid (Yq0 hlt)
   have hB2 := hid ((Below.refl wr.heap.size wr).alloc (Nat.le_refl _) (.cells #[.int .i64 (i.getD k default).t, .int .i64 (i.getD k default).n, .int .i64 (i.getD k default).a,   .int .i64 (i.getD k default).b, .slice Al (i.getD k default).l.length cl, .slice Ai (i.getD k default).i.length ci] 25))
   clear hv hu hmv hsix hbr
   generalize i.getD k default = m at *
   generalize tog (i.take k) = s at *
   go_wp2
   go_roundw
   case rel => exact ⟨k + 1, by go_num, by omega, by rw [Hm.out, Yp5], Hbr.out.trans (hB2.out.mono Hbr.out.size)⟩
   case measure => simp [intOf]; omega
  ·have hie : k = i.length := by omega
   subst hie
   have Ht : Hid (i.take i.length = i) := List.take_length
   rw [Ht.out]
   go_wp2
   go_ret
   exact ⟨rfl, Hbr.out⟩
open Go.RowKit
theorem Ye8 (w : World) (o1 o2 : Obj) : Below w.heap.size w ((w.alloc o1).alloc o2) := ((Below.refl _ w).alloc (Nat.le_refl _) _).alloc (by simp) _
theorem Yp6 (f : Form) (m : Mat) (v : Value) (w : World) (hv : MatV w w.heap.size v m) (hs : Sml m) : Calls Tryz.prog 154 #[formV f, v] w (Says w (Z5_ f m)) := by
 have hl0 := sml_l hs
 have hi0 := U1_ hs
 obtain ⟨lv, iv, rfl, ⟨Al, cl, rfl, _⟩, ⟨Ai, ci, rfl, _⟩⟩ := hv.open
 clear hv hs
 obtain ⟨t, n, a, b, l, i⟩ := m
 obtain ⟨fa, fb, fl, f0, f1⟩ := f
 simp only [Mat.t, Mat.n, Mat.a, Mat.b, Mat.l, Mat.i, formV] at *
 have hl1 : (l.length : Int) ≤ 1000 := by omega
 have hi1 : (i.length : Int) ≤ 1000 := by omega
 have Hb := hid (Ye8 w (.cells #[.bool fa, .bool fb, .int .i64 fl, .int .i64 f0, .int .i64 f1] 156) (.cells #[.int .i64 t, .int .i64 n, .int .i64 a, .int .i64 b, .slice Al l.length cl, .slice Ai i.length ci] 25))
 clear hl0 hi0
 rcases fa with _ | _
 ·by_cases ha : a = 0
  ·subst ha
   rcases fb with _ | _
   ·by_cases hb : b = 0
    ·subst hb
     by_cases hf : fl = -1
     ·subst hf
      by_cases hl : (l.length : Int) = n
      ·have hl' : ((l.length : Int) == n) = true := by simpa using hl
       by_cases h0 : f0 ≤ (i.length : Int)
       ·by_cases h1 : (i.length : Int) ≤ f1
        ·skip
         have e : Z5_ ⟨false, false, -1, f0, f1⟩ (.mk t n 0 0 l i) = true := by
          simp [Z5_, Mat.a, Mat.b, Mat.n, Mat.l, Mat.i, hl, h0, h1] <;> omega
         rw [e]
         try clear ha
         try clear hb
         try clear hf
         try clear hl
         clear e
         go_enter Tryz.func154, Tryz.ntmps154
         go_wp2
         all_goals (go_ret; exact ⟨rfl, Hb.out⟩)
        ·have h1' : f1 < (i.length : Int) := by omega
         have e : Z5_ ⟨false, false, -1, f0, f1⟩ (.mk t n 0 0 l i) = false := by
          simp [Z5_, Mat.a, Mat.b, Mat.n, Mat.l, Mat.i, hl, h1] <;> omega
         rw [e]
         try clear ha
         try clear hb
         try clear hf
         try clear hl
         clear e
         go_enter Tryz.func154, Tryz.ntmps154
         go_wp2
         all_goals (go_ret; exact ⟨rfl, Hb.out⟩)
       ·have h0' : (i.length : Int) < f0 := by omega
        have e : Z5_ ⟨false, false, -1, f0, f1⟩ (.mk t n 0 0 l i) = false := by
         simp [Z5_, Mat.a, Mat.b, Mat.n, Mat.l, Mat.i, hl, h0] <;> omega
        rw [e]
        try clear ha
        try clear hb
        try clear hf
        try clear hl
        clear e
        go_enter Tryz.func154, Tryz.ntmps154
        go_wp2
        all_goals (go_ret; exact ⟨rfl, Hb.out⟩)
      ·have hl' : ((l.length : Int) == n) = false := by simpa using hl
       have e : Z5_ ⟨false, false, -1, f0, f1⟩ (.mk t n 0 0 l i) = false := by
        simp [Z5_, Mat.a, Mat.b, Mat.n, Mat.l, Mat.i, hl] <;> omega
       rw [e]
       try clear ha
       try clear hb
       try clear hf
       try clear hl
       clear e
       go_enter Tryz.func154, Tryz.ntmps154
       go_wp2
       all_goals (go_ret; exact ⟨rfl, Hb.out⟩)
     ·have hf' : (fl == -1) = false := by simpa using hf
      by_cases hl : (l.length : Int) = fl
      ·have hl' : ((l.length : Int) == fl) = true := by simpa using hl
       by_cases h0 : f0 ≤ (i.length : Int)
       ·by_cases h1 : (i.length : Int) ≤ f1
        ·skip
         have e : Z5_ ⟨false, false, fl, f0, f1⟩ (.mk t n 0 0 l i) = true := by
          simp [Z5_, Mat.a, Mat.b, Mat.l, Mat.i, hf, hl, h0, h1] <;> omega
         rw [e]
         try clear ha
         try clear hb
         try clear hf
         try clear hl
         clear e
         go_enter Tryz.func154, Tryz.ntmps154
         go_wp2
         all_goals (go_ret; exact ⟨rfl, Hb.out⟩)
        ·have h1' : f1 < (i.length : Int) := by omega
         have e : Z5_ ⟨false, false, fl, f0, f1⟩ (.mk t n 0 0 l i) = false := by
          simp [Z5_, Mat.a, Mat.b, Mat.l, Mat.i, hf, hl, h1] <;> omega
         rw [e]
         try clear ha
         try clear hb
         try clear hf
         try clear hl
         clear e
         go_enter Tryz.func154, Tryz.ntmps154
         go_wp2
         all_goals (go_ret; exact ⟨rfl, Hb.out⟩)
       ·have h0' : (i.length : Int) < f0 := by omega
        have e : Z5_ ⟨false, false, fl, f0, f1⟩ (.mk t n 0 0 l i) = false := by
         simp [Z5_, Mat.a, Mat.b, Mat.l, Mat.i, hf, hl, h0] <;> omega
        rw [e]
        try clear ha
        try clear hb
        try clear hf
        try clear hl
        clear e
        go_enter Tryz.func154, Tryz.ntmps154
        go_wp2
        all_goals (go_ret; exact ⟨rfl, Hb.out⟩)
      ·have hl' : ((l.length : Int) == fl) = false := by simpa using hl
       have e : Z5_ ⟨false, false, fl, f0, f1⟩ (.mk t n 0 0 l i) = false := by
        simp [Z5_, Mat.a, Mat.b, Mat.l, Mat.i, hf, hl] <;> omega
       rw [e]
       try clear ha
       try clear hb
       try clear hf
       try clear hl
       clear e
       go_enter Tryz.func154, Tryz.ntmps154
       go_wp2
       all_goals (go_ret; exact ⟨rfl, Hb.out⟩)
    ·have hb' : (b == 0) = false := by simpa using hb
     have e : Z5_ ⟨false, false, fl, f0, f1⟩ (.mk t n 0 b l i) = false := by
      simp [Z5_, Mat.a, Mat.b, Mat.n, Mat.l, Mat.i, hb] <;> omega
     rw [e]
     try clear ha
     try clear hb
     try clear hf
     try clear hl
     clear e
     go_enter Tryz.func154, Tryz.ntmps154
     go_wp2
     all_goals (go_ret; exact ⟨rfl, Hb.out⟩)
   ·skip
    by_cases hf : fl = -1
    ·subst hf
     by_cases hl : (l.length : Int) = n
     ·have hl' : ((l.length : Int) == n) = true := by simpa using hl
      by_cases h0 : f0 ≤ (i.length : Int)
      ·by_cases h1 : (i.length : Int) ≤ f1
       ·skip
        have e : Z5_ ⟨false, true, -1, f0, f1⟩ (.mk t n 0 b l i) = true := by
         simp [Z5_, Mat.a, Mat.b, Mat.n, Mat.l, Mat.i, hl, h0, h1] <;> omega
        rw [e]
        try clear ha
        try clear hb
        try clear hf
        try clear hl
        clear e
        go_enter Tryz.func154, Tryz.ntmps154
        go_wp2
        all_goals (go_ret; exact ⟨rfl, Hb.out⟩)
       ·have h1' : f1 < (i.length : Int) := by omega
        have e : Z5_ ⟨false, true, -1, f0, f1⟩ (.mk t n 0 b l i) = false := by
         simp [Z5_, Mat.a, Mat.b, Mat.n, Mat.l, Mat.i, hl, h1] <;> omega
        rw [e]
        try clear ha
        try clear hb
        try clear hf
        try clear hl
        clear e
        go_enter Tryz.func154, Tryz.ntmps154
        go_wp2
        all_goals (go_ret; exact ⟨rfl, Hb.out⟩)
      ·have h0' : (i.length : Int) < f0 := by omega
       have e : Z5_ ⟨false, true, -1, f0, f1⟩ (.mk t n 0 b l i) = false := by
        simp [Z5_, Mat.a, Mat.b, Mat.n, Mat.l, Mat.i, hl, h0] <;> omega
       rw [e]
       try clear ha
       try clear hb
       try clear hf
       try clear hl
       clear e
       go_enter Tryz.func154, Tryz.ntmps154
       go_wp2
       all_goals (go_ret; exact ⟨rfl, Hb.out⟩)
     ·have hl' : ((l.length : Int) == n) = false := by simpa using hl
      have e : Z5_ ⟨false, true, -1, f0, f1⟩ (.mk t n 0 b l i) = false := by
       simp [Z5_, Mat.a, Mat.b, Mat.n, Mat.l, Mat.i, hl] <;> omega
      rw [e]
      try clear ha
      try clear hb
      try clear hf
      try clear hl
      clear e
      go_enter Tryz.func154, Tryz.ntmps154
      go_wp2
      all_goals (go_ret; exact ⟨rfl, Hb.out⟩)
    ·have hf' : (fl == -1) = false := by simpa using hf
     by_cases hl : (l.length : Int) = fl
     ·have hl' : ((l.length : Int) == fl) = true := by simpa using hl
      by_cases h0 : f0 ≤ (i.length : Int)
      ·by_cases h1 : (i.length : Int) ≤ f1
       ·skip
        have e : Z5_ ⟨false, true, fl, f0, f1⟩ (.mk t n 0 b l i) = true := by
         simp [Z5_, Mat.a, Mat.b, Mat.l, Mat.i, hf, hl, h0, h1] <;> omega
        rw [e]
        try clear ha
        try clear hb
        try clear hf
        try clear hl
        clear e
        go_enter Tryz.func154, Tryz.ntmps154
        go_wp2
        all_goals (go_ret; exact ⟨rfl, Hb.out⟩)
       ·have h1' : f1 < (i.length : Int) := by omega
        have e : Z5_ ⟨false, true, fl, f0, f1⟩ (.mk t n 0 b l i) = false := by
         simp [Z5_, Mat.a, Mat.b, Mat.l, Mat.i, hf, hl, h1] <;> omega
        rw [e]
        try clear ha
        try clear hb
        try clear hf
        try clear hl
        clear e
        go_enter Tryz.func154, Tryz.ntmps154
        go_wp2
        all_goals (go_ret; exact ⟨rfl, Hb.out⟩)
      ·have h0' : (i.length : Int) < f0 := by omega
       have e : Z5_ ⟨false, true, fl, f0, f1⟩ (.mk t n 0 b l i) = false := by
        simp [Z5_, Mat.a, Mat.b, Mat.l, Mat.i, hf, hl, h0] <;> omega
       rw [e]
       try clear ha
       try clear hb
       try clear hf
       try clear hl
       clear e
       go_enter Tryz.func154, Tryz.ntmps154
       go_wp2
       all_goals (go_ret; exact ⟨rfl, Hb.out⟩)
     ·have hl' : ((l.length : Int) == fl) = false := by simpa using hl
      have e : Z5_ ⟨false, true, fl, f0, f1⟩ (.mk t n 0 b l i) = false := by
       simp [Z5_, Mat.a, Mat.b, Mat.l, Mat.i, hf, hl] <;> omega
      rw [e]
      try clear ha
      try clear hb
      try clear hf
      try clear hl
      clear e
      go_enter Tryz.func154, Tryz.ntmps154
      go_wp2
      all_goals (go_ret; exact ⟨rfl, Hb.out⟩)
  ·have ha' : (a == 0) = false := by simpa using ha
   have e : Z5_ ⟨false, fb, fl, f0, f1⟩ (.mk t n a b l i) = false := by
    simp [Z5_, Mat.a, Mat.b, Mat.n, Mat.l, Mat.i, ha] <;> omega
   rw [e]
   try clear ha
   try clear hb
   try clear hf
   try clear hl
   clear e
   go_enter Tryz.func154, Tryz.ntmps154
   go_wp2
   all_goals (go_ret; exact ⟨rfl, Hb.out⟩)
 ·skip
  rcases fb with _ | _
  ·by_cases hb : b = 0
   ·subst hb
    by_cases hf : fl = -1
    ·subst hf
     by_cases hl : (l.length : Int) = n
     ·have hl' : ((l.length : Int) == n) = true := by simpa using hl
      by_cases h0 : f0 ≤ (i.length : Int)
      ·by_cases h1 : (i.length : Int) ≤ f1
       ·skip
        have e : Z5_ ⟨true, false, -1, f0, f1⟩ (.mk t n a 0 l i) = true := by
         simp [Z5_, Mat.a, Mat.b, Mat.n, Mat.l, Mat.i, hl, h0, h1] <;> omega
        rw [e]
        try clear ha
        try clear hb
        try clear hf
        try clear hl
        clear e
        go_enter Tryz.func154, Tryz.ntmps154
        go_wp2
        all_goals (go_ret; exact ⟨rfl, Hb.out⟩)
       ·have h1' : f1 < (i.length : Int) := by omega
        have e : Z5_ ⟨true, false, -1, f0, f1⟩ (.mk t n a 0 l i) = false := by
         simp [Z5_, Mat.a, Mat.b, Mat.n, Mat.l, Mat.i, hl, h1] <;> omega
        rw [e]
        try clear ha
        try clear hb
        try clear hf
        try clear hl
        clear e
        go_enter Tryz.func154, Tryz.ntmps154
        go_wp2
        all_goals (go_ret; exact ⟨rfl, Hb.out⟩)
      ·have h0' : (i.length : Int) < f0 := by omega
       have e : Z5_ ⟨true, false, -1, f0, f1⟩ (.mk t n a 0 l i) = false := by
        simp [Z5_, Mat.a, Mat.b, Mat.n, Mat.l, Mat.i, hl, h0] <;> omega
       rw [e]
       try clear ha
       try clear hb
       try clear hf
       try clear hl
       clear e
       go_enter Tryz.func154, Tryz.ntmps154
       go_wp2
       all_goals (go_ret; exact ⟨rfl, Hb.out⟩)
     ·have hl' : ((l.length : Int) == n) = false := by simpa using hl
      have e : Z5_ ⟨true, false, -1, f0, f1⟩ (.mk t n a 0 l i) = false := by
       simp [Z5_, Mat.a, Mat.b, Mat.n, Mat.l, Mat.i, hl] <;> omega
      rw [e]
      try clear ha
      try clear hb
      try clear hf
      try clear hl
      clear e
      go_enter Tryz.func154, Tryz.ntmps154
      go_wp2
      all_goals (go_ret; exact ⟨rfl, Hb.out⟩)
    ·have hf' : (fl == -1) = false := by simpa using hf
     by_cases hl : (l.length : Int) = fl
     ·have hl' : ((l.length : Int) == fl) = true := by simpa using hl
      by_cases h0 : f0 ≤ (i.length : Int)
      ·by_cases h1 : (i.length : Int) ≤ f1
       ·skip
        have e : Z5_ ⟨true, false, fl, f0, f1⟩ (.mk t n a 0 l i) = true := by
         simp [Z5_, Mat.a, Mat.b, Mat.l, Mat.i, hf, hl, h0, h1] <;> omega
        rw [e]
        try clear ha
        try clear hb
        try clear hf
        try clear hl
        clear e
        go_enter Tryz.func154, Tryz.ntmps154
        go_wp2
        all_goals (go_ret; exact ⟨rfl, Hb.out⟩)
       ·have h1' : f1 < (i.length : Int) := by omega
        have e : Z5_ ⟨true, false, fl, f0, f1⟩ (.mk t n a 0 l i) = false := by
         simp [Z5_, Mat.a, Mat.b, Mat.l, Mat.i, hf, hl, h1] <;> omega
        rw [e]
        try clear ha
        try clear hb
        try clear hf
        try clear hl
        clear e
        go_enter Tryz.func154, Tryz.ntmps154
        go_wp2
        all_goals (go_ret; exact ⟨rfl, Hb.out⟩)
      ·have h0' : (i.length : Int) < f0 := by omega
       have e : Z5_ ⟨true, false, fl, f0, f1⟩ (.mk t n a 0 l i) = false := by
        simp [Z5_, Mat.a, Mat.b, Mat.l, Mat.i, hf, hl, h0] <;> omega
       rw [e]
       try clear ha
       try clear hb
       try clear hf
       try clear hl
       clear e
       go_enter Tryz.func154, Tryz.ntmps154
       go_wp2
       all_goals (go_ret; exact ⟨rfl, Hb.out⟩)
     ·have hl' : ((l.length : Int) == fl) = false := by simpa using hl
      have e : Z5_ ⟨true, false, fl, f0, f1⟩ (.mk t n a 0 l i) = false := by
       simp [Z5_, Mat.a, Mat.b, Mat.l, Mat.i, hf, hl] <;> omega
      rw [e]
      try clear ha
      try clear hb
      try clear hf
      try clear hl
      clear e
      go_enter Tryz.func154, Tryz.ntmps154
      go_wp2
      all_goals (go_ret; exact ⟨rfl, Hb.out⟩)
   ·have hb' : (b == 0) = false := by simpa using hb
    have e : Z5_ ⟨true, false, fl, f0, f1⟩ (.mk t n a b l i) = false := by
     simp [Z5_, Mat.a, Mat.b, Mat.n, Mat.l, Mat.i, hb] <;> omega
    rw [e]
    try clear ha
    try clear hb
    try clear hf
    try clear hl
    clear e
    go_enter Tryz.func154, Tryz.ntmps154
    go_wp2
    all_goals (go_ret; exact ⟨rfl, Hb.out⟩)
  ·skip
   by_cases hf : fl = -1
   ·subst hf
    by_cases hl : (l.length : Int) = n
    ·have hl' : ((l.length : Int) == n) = true := by simpa using hl
     by_cases h0 : f0 ≤ (i.length : Int)
     ·by_cases h1 : (i.length : Int) ≤ f1
      ·skip
       have e : Z5_ ⟨true, true, -1, f0, f1⟩ (.mk t n a b l i) = true := by
        simp [Z5_, Mat.a, Mat.b, Mat.n, Mat.l, Mat.i, hl, h0, h1] <;> omega
       rw [e]
       try clear ha
       try clear hb
       try clear hf
       try clear hl
       clear e
       go_enter Tryz.func154, Tryz.ntmps154
       go_wp2
       all_goals (go_ret; exact ⟨rfl, Hb.out⟩)
      ·have h1' : f1 < (i.length : Int) := by omega
       have e : Z5_ ⟨true, true, -1, f0, f1⟩ (.mk t n a b l i) = false := by
        simp [Z5_, Mat.a, Mat.b, Mat.n, Mat.l, Mat.i, hl, h1] <;> omega
       rw [e]
       try clear ha
       try clear hb
       try clear hf
       try clear hl
       clear e
       go_enter Tryz.func154, Tryz.ntmps154
       go_wp2
       all_goals (go_ret; exact ⟨rfl, Hb.out⟩)
     ·have h0' : (i.length : Int) < f0 := by omega
      have e : Z5_ ⟨true, true, -1, f0, f1⟩ (.mk t n a b l i) = false := by
       simp [Z5_, Mat.a, Mat.b, Mat.n, Mat.l, Mat.i, hl, h0] <;> omega
      rw [e]
      try clear ha
      try clear hb
      try clear hf
      try clear hl
      clear e
      go_enter Tryz.func154, Tryz.ntmps154
      go_wp2
      all_goals (go_ret; exact ⟨rfl, Hb.out⟩)
    ·have hl' : ((l.length : Int) == n) = false := by simpa using hl
     have e : Z5_ ⟨true, true, -1, f0, f1⟩ (.mk t n a b l i) = false := by
      simp [Z5_, Mat.a, Mat.b, Mat.n, Mat.l, Mat.i, hl] <;> omega
     rw [e]
     try clear ha
     try clear hb
     try clear hf
     try clear hl
     clear e
     go_enter Tryz.func154, Tryz.ntmps154
     go_wp2
     all_goals (go_ret; exact ⟨rfl, Hb.out⟩)
   ·have hf' : (fl == -1) = false := by simpa using hf
    by_cases hl : (l.length : Int) = fl
    ·have hl' : ((l.length : Int) == fl) = true := by simpa using hl
     by_cases h0 : f0 ≤ (i.length : Int)
     ·by_cases h1 : (i.length : Int) ≤ f1
      ·skip
       have e : Z5_ ⟨true, true, fl, f0, f1⟩ (.mk t n a b l i) = true := by
        simp [Z5_, Mat.a, Mat.b, Mat.l, Mat.i, hf, hl, h0, h1] <;> omega
       rw [e]
       try clear ha
       try clear hb
       try clear hf
       try clear hl
       clear e
       go_enter Tryz.func154, Tryz.ntmps154
       go_wp2
       all_goals (go_ret; exact ⟨rfl, Hb.out⟩)
      ·have h1' : f1 < (i.length : Int) := by omega
       have e : Z5_ ⟨true, true, fl, f0, f1⟩ (.mk t n a b l i) = false := by
        simp [Z5_, Mat.a, Mat.b, Mat.l, Mat.i, hf, hl, h1] <;> omega
       rw [e]
       try clear ha
       try clear hb
       try clear hf
       try clear hl
       clear e
       go_enter Tryz.func154, Tryz.ntmps154
       go_wp2
       all_goals (go_ret; exact ⟨rfl, Hb.out⟩)
     ·have h0' : (i.length : Int) < f0 := by omega
      have e : Z5_ ⟨true, true, fl, f0, f1⟩ (.mk t n a b l i) = false := by
       simp [Z5_, Mat.a, Mat.b, Mat.l, Mat.i, hf, hl, h0] <;> omega
      rw [e]
      try clear ha
      try clear hb
      try clear hf
      try clear hl
      clear e
      go_enter Tryz.func154, Tryz.ntmps154
      go_wp2
      all_goals (go_ret; exact ⟨rfl, Hb.out⟩)
    ·have hl' : ((l.length : Int) == fl) = false := by simpa using hl
     have e : Z5_ ⟨true, true, fl, f0, f1⟩ (.mk t n a b l i) = false := by
      simp [Z5_, Mat.a, Mat.b, Mat.l, Mat.i, hf, hl] <;> omega
     rw [e]
     try clear ha
     try clear hb
     try clear hf
     try clear hl
     clear e
     go_enter Tryz.func154, Tryz.ntmps154
     go_wp2
     all_goals (go_ret; exact ⟨rfl, Hb.out⟩)
open Go.RowKit
theorem D2_ (n : Int) : (allL n).length ≤ 1048576 := by
 unfold allL
 split
 ·simp
 ·simp
  omega
theorem P3_ (m : Mat) (v : Value) (w : World) (hv : MatV w w.heap.size v m) (hs : Sml m) (hl : 0 < m.l.length) (hi : 0 < m.i.length) : Calls Tryz.prog 171 #[v] w (Says w (partB m)) := by
 obtain ⟨lv, iv, rfl, ⟨Al, cl, rfl, _, hlk⟩, ⟨Ai, ci, rfl, _, hik⟩⟩ := hv.open
 obtain ⟨ad, u, hA, hab, hcu, hru⟩ := hlk 0 hl
 obtain ⟨ai, u2, hA2, hab2, hsix, hmv⟩ := hik 0 hi
 subst hA hA2
 have hrow := sml_r hs (Y1_ m.l 0 [] hl)
 obtain ⟨lv2, iv2, rfl, _, _⟩ := hmv.open
 obtain ⟨_, s1, _, _, _, _, hv5, _, c1, _⟩ := hsix
 injection hv5 with hv5
 injection hv5 with hv5
 injection hv5 with _ hv5
 injection hv5 with hv5 _
 subst hv5
 have hl1 : (0 : Int) < (m.l.length : Int) := by omega
 have hi1 : (0 : Int) < (m.i.length : Int) := by omega
 rw [show (0 : Nat) * 6 = 0 from rfl, add_zero] at c1
 rw [add_zero] at hcu
 have hal := D2_ (inn m).n
 unfold partB row inn
 unfold inn at hal
 generalize m.l.getD 0 [] = r at *
 generalize m.i.getD 0 default = x at *
 have Hblk := hid (Z3_ w m (.slice (some ad) m.l.length cl) (.slice (some ai) m.i.length ci))
 have Hb0 := hid (Z1_ w m (.slice (some ad) m.l.length cl) (.slice (some ai) m.i.length ci))
 unfold boxed at *
 have g4 := Hblk.out.cell 4
 have g5 := Hblk.out.cell 5
 have gr := (Hb0.out.cell (p := ad) hab).trans hcu
 have gn := (Hb0.out.cell (p := ⟨ai.block, ai.off + 1, none⟩) hab2).trans c1
 have Hru := hid (hru.up Hb0.out)
 clear hlk hik hmv hs hv hru hcu c1
 obtain ⟨W0, hW0⟩ : ∃ W0, W0 = w.alloc (.cells #[.int .i64 m.t, .int .i64 m.n, .int .i64 m.a, .int .i64 m.b, .slice (some ad) m.l.length cl, .slice (some ai) m.i.length ci] 25) := ⟨_, rfl⟩
 have HW0 := hid hW0
 have hlt : w.heap.size < W0.heap.size := by rw [hW0]; simp
 have habW : ad.block < W0.heap.size := by omega
 have haiW : ai.block < W0.heap.size := by omega
 rw [← hW0] at Hb0 g4 g5 gr gn Hru
 clear Hblk
 go_enter Tryz.func171, Tryz.ntmps171
 go_wp2
 rw [← HW0.out]
 clear hW0
 have k1 : ∀ W, Below W0.drew.heap.size W0.drew W → W.cell? ⟨w.heap.size, 4, none⟩ = some (.slice (some ad) m.l.length cl) ∧ W.cell? ⟨w.heap.size, 5, none⟩ = some (.slice (some ai) m.i.length ci) ∧ W.cell? ad = some u ∧ W.cell? ⟨ai.block, ai.off + 1, none⟩ = some (.int .i64 x.n) := fun W hW =>
  ⟨(hW.cell (p := ⟨w.heap.size, 4, none⟩) hlt).trans g4, (hW.cell (p := ⟨w.heap.size, 5, none⟩) hlt).trans g5, (hW.cell (p := ad) habW).trans gr, (hW.cell (p := ⟨ai.block, ai.off + 1, none⟩) haiW).trans gn⟩
 have K1 := hid k1
 clear k1
 go_region_held3 (fun W => W.cell? ⟨w.heap.size, 4, none⟩ = some (.slice (some ad) m.l.length cl) ∧ W.cell? ⟨w.heap.size, 5, none⟩ = some (.slice (some ai) m.i.length ci) ∧ W.cell? ad = some u ∧ W.cell? ⟨ai.block, ai.off + 1, none⟩ = some (.int .i64 x.n))
  (first | exact K1.out _ (Below.refl _ _) | exact K1.out _ hb1 | exact K1.out _ (Z0_ hb1 (Nat.le_refl _) hb2))
  (first
  | (go_at_call 53; refine (H0_ _ _).mono ?_; rintro e w1 ⟨v1, rfl, hr1, hb1⟩; have hru1 : Row w1 w1.heap.size u r := (show Row W0.drew W0.drew.heap.size u r from Hru.out).up hb1)
  | (go_at_call 81; refine (R2_ _ _ r (allL x.n) _ hru1 hr1 (by omega) hal).mono ?_; rintro e w2 ⟨rfl, hb2⟩))
 all_goals
  have Hb2 := hid (Z0_ (Z0_ Hb0.out.drew (Nat.le_refl _) hb1) (Nat.le_refl _) hb2)
  clear hb1 hb2
  go_simp
  go_wp2
  go_ret
  exact ⟨rfl, Hb2.out⟩
open Go.RowKit
theorem G5_ {w : World} {t : TypeId} {cs : Array Value} : ∀ W, Below (w.heap.size + 1) (w.alloc (.cells cs t)) W → ∀ i, W.cell? ⟨w.heap.size, i, none⟩ = cs[i]? :=
 fun _ hW i => (hW.cell (p := ⟨w.heap.size, i, none⟩) (by show w.heap.size < _; omega)).trans ((Blk.new w t cs).cell i)
theorem Zq7 (m : Mat) (v : Value) (w : World) (hv : MatV w w.heap.size v m) (hs : Sml m) (h7 : 7 ≤ m.t) : Calls Tryz.prog 155 #[v] w (Says w (fitsB m)) := by
 have hi0 := U1_ hs
 obtain ⟨lv, iv, rfl, _, hi⟩ := hv.open
 have hfit : fitsB m = decide (m.n = tog m.i) := by
  unfold fitsB
  rw [if_neg (by omega), if_neg (by omega), if_neg (by omega), if_neg (by omega), if_neg (by omega), if_neg (by omega), if_neg (by omega)]
 rw [hfit]
 have Hb0 := hid (Z1_ w m lv iv)
 have Hi := hid (hi.upA (.cells #[.int .i64 m.t, .int .i64 m.n, .int .i64 m.a, .int .i64 m.b, lv, iv] 25))
 obtain ⟨Ai, ci, rfl, _⟩ := hi
 have Hbox := hid (G5_ (w := w) (t := 25) (cs := #[.int .i64 m.t, .int .i64 m.n, .int .i64 m.a, .int .i64 m.b, lv, .slice Ai m.i.length ci]))
 unfold boxed at *
 have g0 := (Blk.new w 25 #[.int .i64 m.t, .int .i64 m.n, .int .i64 m.a, .int .i64 m.b, lv, .slice Ai m.i.length ci]).cell 0
 have e0 : (m.t == 0) = false := by simp; omega
 have e1 : (m.t == 1) = false := by simp; omega
 have e2 : (m.t == 2) = false := by simp; omega
 have e3 : (m.t == 3) = false := by simp; omega
 have e4 : (m.t == 4) = false := by simp; omega
 have e5 : (m.t == 5) = false := by simp; omega
 have e6 : (m.t == 6) = false := by simp; omega
 clear hfit hv hs h7
 obtain ⟨W0, hW0⟩ : ∃ W0, W0 = w.alloc (.cells #[.int .i64 m.t, .int .i64 m.n, .int .i64 m.a, .int .i64 m.b, lv, .slice Ai m.i.length ci] 25) := ⟨_, rfl⟩
 have hsz : W0.heap.size = w.heap.size + 1 := by rw [hW0]; simp
 have Hsz := hid hsz
 have HW0 := hid hW0
 rw [← hW0] at Hb0 Hi Hbox g0
 rw [← hsz] at Hbox
 have Hcall : Hid (∀ W, Below W0.heap.size W0 W → Calls Tryz.prog 172 #[.slice Ai m.i.length ci] W fun e w' => e = .returned (.int .i64 (tog m.i)) ∧ Below W0.heap.size W0 w') := fun W hW =>
  (Zm4 _ m.i _ (Hi.out.up hW) hi0).mono fun _ _ ⟨h1, h2⟩ => ⟨h1, Z0_ hW (Nat.le_refl _) h2⟩
 go_enter Tryz.func155, Tryz.ntmps155
 go_wp2
 rw [← HW0.out]
 clear hW0 hsz e0 e1 e2 e3 e4 e5 e6
 refine Z6_ W0.heap.size W0 (by kernel_rfl) (by kernel_rfl) (Below.refl _ _) ?_
 iterate 7 (first
  | go_big_quiet_step (exact Hcall.out _)
  | (go_big_quiet_want; apply Exists.intro; refine ⟨fun W hW => ?_, ?_⟩; (· have q := Hbox.out W hW; have q1 := q 1; have q5 := q 5; clear q; go_simp; first | exact rfl | exact ⟨rfl, rfl⟩); go_simp; go_big_quiet_on))
 refine wpQuiet_nil ?_
 intro w5 hB5
 go_wp2
 go_ret
 exact ⟨rfl, Hb0.out.trans (hB5.mono Hb0.out.size)⟩
end Wp
end Go.Proofs.YtgadbnbhgpehjaaGreatDoor
