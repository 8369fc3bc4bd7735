/- The law of the way along a path, walked: it answers true. -/
import Derived.Test.YtjhkmilfhecdfaaRPathP
namespace Go.Proofs.Ytjhkmilfhecdfaa
open Go.RowKit
namespace Wp

set_option maxHeartbeats 8000000 in
set_option maxRecDepth 100000 in
theorem line_any (x : Int) (w : World) : Calls Try.prog 11 #[.int .i64 x] w (Truly w) := by
  have HB0 := Lib.hid (Below.refl w.heap.size w)
  by_cases b1 : x < 1
  · skip
    go_enter Try.func11, Try.ntmps11
    go_wp2_with fail
    refine (rfixed_any _).mono ?_
    rintro e w1 ⟨rfl, hb2⟩
    have HB3 := Lib.hid (below_next HB0.out (Nat.le_refl _) hb2)
    clear hb2 HB0
    go_wp2_with fail
    refine (rfixed_any _).mono ?_
    rintro e w4 ⟨rfl, hb5⟩
    have HB6 := Lib.hid (below_next HB3.out (Nat.le_refl _) hb5)
    clear hb5 HB3
    go_wp2
    go_ret
    exact ⟨rfl, HB6.out⟩
  by_cases b2 : 100 < x
  · skip
    go_enter Try.func11, Try.ntmps11
    go_wp2_with fail
    refine (rfixed_any _).mono ?_
    rintro e w1 ⟨rfl, hb2⟩
    have HB3 := Lib.hid (below_next HB0.out (Nat.le_refl _) hb2)
    clear hb2 HB0
    go_wp2_with fail
    refine (rfixed_any _).mono ?_
    rintro e w4 ⟨rfl, hb5⟩
    have HB6 := Lib.hid (below_next HB3.out (Nat.le_refl _) hb5)
    clear hb5 HB3
    go_wp2
    go_ret
    exact ⟨rfl, HB6.out⟩
  obtain ⟨n, rfl⟩ : ∃ n : Nat, x = (n : Int) := ⟨x.toNat, by omega⟩
  have hn1 : 1 ≤ n := by omega
  have hn100 : n ≤ 100 := by omega
  clear b1 b2
  have hb1 : ¬ ((n : Int) < 1) := by omega
  have hb2 : ¬ (100 < (n : Int)) := by omega
  have hs1 : IntKind.i64.wrap ((n : Int) - 1) = (n : Int) - 1 := by rw [IntKind.wrap_i64]; omega
  have hs2 : wrap64 ((n : Int) - 1) = (n : Int) - 1 := by unfold wrap64; omega
  go_enter Try.func11, Try.ntmps11
  go_wp2_with fail
  refine (rfixed_any _).mono ?_
  rintro e w1 ⟨rfl, hb2⟩
  have HB3 := Lib.hid (below_next HB0.out (Nat.le_refl _) hb2)
  clear hb2 HB0
  have hA0 := World.ownsRow_lit (base := w1.heap.size) (e := 25) (size := 1) w1 #[] 0 (Nat.le_refl _) (by unfold maxLen; omega) rfl
  have hL0 := World.ownsRow_lit (base := w1.heap.size) (e := 3) (size := 1) (w1.alloc (.cells #[] 25)) #[] 0 (by simp) (by unfold maxLen; omega) rfl
  rw [show (w1.alloc (.cells #[] 25)).heap.size = w1.heap.size + 1 by simp] at hL0
  have HP0 : Hid (PKeep w1 ((w1.alloc (.cells #[] 25)).alloc (.cells #[] 3)) (.slice (some ⟨w1.heap.size, 0, none⟩) 0 0) (.slice (some ⟨w1.heap.size + 1, 0, none⟩) 0 0) n 0 []) := Lib.hid
    ⟨World.ownsRow.alloc hA0 _, rfl, fun i u hu => by simp at hu, ((Below.refl _ w1).alloc (Nat.le_refl _) _).alloc (by simp) _⟩
  have HL0 := Lib.hid hL0
  clear hA0 hL0
  go_wp2
  go_loopw [3, 4, 5] (fun va vl vi wr => ∃ (k : Nat) (vs : List Value), vi = .int .i64 k ∧ k ≤ n ∧ PKeep w1 wr va vl n k vs ∧ wr.ownsRow w1.heap.size 3 1 vl (ints (upTo k)).length (ints (upTo k))) (fun _ _ vi _ => n - (intOf vi).toNat)
  case atStart => exact ⟨0, [], rfl, Nat.zero_le _, HP0.out, HL0.out⟩
  case round =>
    clear HP0 HL0
    obtain ⟨k, vs, rfl, hk, hP, hL⟩ := hrel
    have HP := Lib.hid hP
    have HL := Lib.hid hL
    have hvl : vs.length = k := hP.len
    have Hvl := Lib.hid hvl
    clear hP hL hvl
    by_cases hlt : k < n
    · have hkI : (k : Int) < (n : Int) := by omega
      by_cases hn : k + 1 < n
      · have hnI : (k : Int) + 1 < (n : Int) := by omega
        have hrow : rowP n k = [((k + 1 : Nat) : Int)] := if_pos hn
        have hcast : (((k + 1 : Nat) : Int)) = (k : Int) + 1 := by omega
        rw [hcast] at hrow
        have b1 : Below wr.heap.size wr (wr.alloc (.cells #[.int .i64 ((k : Int) + 1)] 3)) := (Below.refl _ wr).alloc (Nat.le_refl _) _
        have b2 : Below (wr.alloc (.cells #[.int .i64 ((k : Int) + 1)] 3)).heap.size (wr.alloc (.cells #[.int .i64 ((k : Int) + 1)] 3)) ((wr.alloc (.cells #[.int .i64 ((k : Int) + 1)] 3)).alloc (.cells #[.slice (some ⟨wr.heap.size, 0, none⟩) 1 1] 25)) := (Below.refl _ _).alloc (Nat.le_refl _) _
        have HP2 := Lib.hid ((HP.out.up b1).up b2)
        have Hr1 := Lib.hid ((RowO.fresh wr ((k : Int) + 1) _ (fun g hg => (HP.out.a.lt g hg).2)).below b2)
        have Hr2 := Lib.hid ((RowO.fresh wr ((k : Int) + 1) _ (fun g hg => (HL.out.lt g hg).2)).below b2)
        have Hcell := Lib.hid (cellN (wr.alloc (.cells #[.int .i64 ((k : Int) + 1)] 3)) (wr.heap.size + 1) (by simp) (.slice (some ⟨wr.heap.size, 0, none⟩) 1 1) 25)
        have HL2 := Lib.hid (own_kept_none (own_kept_none HL.out b1) b2)
        have Hvs : Hid (vs.length ≤ 4194304) := Lib.hid (by rw [Hvl.out]; omega)
        have Hrow := Lib.hid hrow
        clear hrow HP HL b1 b2 hcast
        go_wp2_with (at_builtin; go_loud (refine wpList_append_cell rfl _ _ 22 25 (.slice none 0 0) 24 rfl Try.underlying22 info24 rfl w1.heap.size _ (.slice (some ⟨wr.heap.size, 0, none⟩) 1 1) vs rfl HP2.out.a (wr.heap.size + 1) rfl Hcell.out rfl Hvs.out (by omega) HP2.out.bel.size ?_))
        intro v8 w8 hown8 hgr8 hl8
        have HP3 := Lib.hid (HP2.out.pushA (by rw [Hrow.out]; exact Hr1.out) (by rw [Hrow.out]; exact Hr2.out) hown8 hgr8 (by simpa using hl8))
        have HL3 := Lib.hid (HL2.out.kept hgr8 (own_ne HL2.out HP2.out.a (by decide)))
        clear hown8 hgr8 hl8 HP2 HL2 Hr1 Hr2 Hcell
        have b3 : Below w8.heap.size w8 (w8.alloc (.cells #[.int .i64 (k : Int)] 3)) := (Below.refl _ w8).alloc (Nat.le_refl _) _
        have HP4 := Lib.hid (HP3.out.up b3)
        have HL4 := Lib.hid (own_kept_none HL3.out b3)
        have Hcell := Lib.hid (cellN w8 _ rfl (.int .i64 (k : Int)) 3)
        have Hul : Hid ((ints (upTo k)).length ≤ 4194304) := Lib.hid (by rw [ints_length, upTo_length]; omega)
        clear HP3 HL3 b3
        go_wp2_with (at_builtin; go_loud (refine wpList_append_cell rfl _ _ 25 3 (.int .i64 0) 8 rfl Try.underlying25 info3 rfl w1.heap.size _ (.int .i64 (k : Int)) (ints (upTo k)) rfl HL4.out w8.heap.size rfl Hcell.out rfl Hul.out (by omega) HP4.out.bel.size ?_))
        intro v9 w9 hown9 hgr9 hl9
        have HP5 := Lib.hid (HP4.out.pushL HL4.out hgr9 (by simpa using hl9))
        have HL5 : Hid (w9.ownsRow w1.heap.size 3 1 v9 (ints (upTo (k + 1))).length (ints (upTo (k + 1)))) := Lib.hid (by
          rw [upTo_succ, ints_append, List.length_append]
          exact hown9)
        clear hown9 hgr9 hl9 HP4 HL4 Hcell Hul
        go_wp2
        go_roundw
        case rel => exact ⟨k + 1, _, by go_num, by omega, HP5.out, HL5.out⟩
        case measure => simp [intOf]; omega
      · have hnI : ¬ ((k : Int) + 1 < (n : Int)) := by omega
        have hrow : rowP n k = [] := if_neg hn
        have b2 : Below wr.heap.size wr (wr.alloc (.cells #[.slice none 0 0] 25)) := (Below.refl _ wr).alloc (Nat.le_refl _) _
        have HP2 := Lib.hid (HP.out.up b2)
        have Hcell := Lib.hid (cellN wr _ rfl (.slice none 0 0) 25)
        have HL2 := Lib.hid (own_kept_none HL.out b2)
        have Hvs : Hid (vs.length ≤ 4194304) := Lib.hid (by rw [Hvl.out]; omega)
        have Hrow := Lib.hid hrow
        clear hrow HP HL b2
        go_wp2_with (at_builtin; go_loud (refine wpList_append_cell rfl _ _ 22 25 (.slice none 0 0) 24 rfl Try.underlying22 info24 rfl w1.heap.size _ (.slice none 0 0) vs rfl HP2.out.a wr.heap.size rfl Hcell.out rfl Hvs.out (by omega) HP2.out.bel.size ?_))
        intro v8 w8 hown8 hgr8 hl8
        have HP3 := Lib.hid (HP2.out.pushA (u := .slice none 0 0) (by rw [Hrow.out]; exact RowO.none_ _ _) (by rw [Hrow.out]; exact RowO.none_ _ _) hown8 hgr8 (by simpa using hl8))
        have HL3 := Lib.hid (HL2.out.kept hgr8 (own_ne HL2.out HP2.out.a (by decide)))
        clear hown8 hgr8 hl8 HP2 HL2 Hcell
        have b3 : Below w8.heap.size w8 (w8.alloc (.cells #[.int .i64 (k : Int)] 3)) := (Below.refl _ w8).alloc (Nat.le_refl _) _
        have HP4 := Lib.hid (HP3.out.up b3)
        have HL4 := Lib.hid (own_kept_none HL3.out b3)
        have Hcell := Lib.hid (cellN w8 _ rfl (.int .i64 (k : Int)) 3)
        have Hul : Hid ((ints (upTo k)).length ≤ 4194304) := Lib.hid (by rw [ints_length, upTo_length]; omega)
        clear HP3 HL3 b3
        go_wp2_with (at_builtin; go_loud (refine wpList_append_cell rfl _ _ 25 3 (.int .i64 0) 8 rfl Try.underlying25 info3 rfl w1.heap.size _ (.int .i64 (k : Int)) (ints (upTo k)) rfl HL4.out w8.heap.size rfl Hcell.out rfl Hul.out (by omega) HP4.out.bel.size ?_))
        intro v9 w9 hown9 hgr9 hl9
        have HP5 := Lib.hid (HP4.out.pushL HL4.out hgr9 (by simpa using hl9))
        have HL5 : Hid (w9.ownsRow w1.heap.size 3 1 v9 (ints (upTo (k + 1))).length (ints (upTo (k + 1)))) := Lib.hid (by
          rw [upTo_succ, ints_append, List.length_append]
          exact hown9)
        clear hown9 hgr9 hl9 HP4 HL4 Hcell Hul
        go_wp2
        go_roundw
        case rel => exact ⟨k + 1, _, by go_num, by omega, HP5.out, HL5.out⟩
        case measure => simp [intOf]; omega
    · have hke : k = n := by omega
      subst hke
      have HRA := Lib.hid HP.out.all
      have HRL := Lib.hid (Row.of_own (zs := upTo k) HL.out (ints_length _))
      have HBx := Lib.hid (below_next HB3.out (Nat.le_refl _) HP.out.bel)
      have HLP := Lib.hid (line_path hn1 hn100)
      obtain ⟨ln, hln⟩ := line_not hn1 hn100
      have HLN := Lib.hid hln
      have HF1 := Lib.hid (line_from hn1 hn100)
      have HF2 := Lib.hid (line_from2 hn1 hn100)
      have Hul : Hid ((upTo k).length ≤ 1048576) := Lib.hid (by rw [upTo_length]; omega)
      clear HP HL hln HB3
      have adj_301 := Lib.hid (HRA.out.upA (.cells #[.int .i64 0] 3))
      clear HRA
      have all_302 := Lib.hid (HRL.out.upA (.cells #[.int .i64 0] 3))
      clear HRL
      have HB303 := Lib.hid (HBx.out.alloc HBx.out.size (.cells #[.int .i64 0] 3))
      clear HBx
      have f_304 := Lib.hid (Row.at1 wr (wr.heap.size) (by simp) 0)
      have adj_305 := Lib.hid (adj_301.out.upA (.cells #[.int .i64 ((k : Int) - 1)] 3))
      clear adj_301
      have all_306 := Lib.hid (all_302.out.upA (.cells #[.int .i64 ((k : Int) - 1)] 3))
      clear all_302
      have f_307 := Lib.hid (f_304.out.upA (.cells #[.int .i64 ((k : Int) - 1)] 3))
      clear f_304
      have HB308 := Lib.hid (HB303.out.alloc HB303.out.size (.cells #[.int .i64 ((k : Int) - 1)] 3))
      clear HB303
      have t_309 := Lib.hid (Row.at1 (wr.alloc (.cells #[.int .i64 0] 3)) (wr.heap.size + 1) (by simp) ((k : Int) - 1))
      go_wp2_with fail
      refine (path_is (lineA k) [0] [((k : Int) - 1)] (upTo k) true HLP.out _ _ _ _ adj_305.out f_307.out t_309.out).mono ?_
      rintro e w312 ⟨u310, rfl, r311, hb313⟩
      have adj_314 := Lib.hid (adj_305.out.up hb313)
      clear adj_305
      have all_315 := Lib.hid (all_306.out.up hb313)
      clear all_306
      have f_316 := Lib.hid (f_307.out.up hb313)
      clear f_307
      have t_317 := Lib.hid (t_309.out.up hb313)
      clear t_309
      have HB318 := Lib.hid (below_next HB308.out (Nat.le_refl _) hb313)
      clear hb313 HB308
      have p_319 := Lib.hid (r311)
      clear r311
      clear f_316
      clear t_317
      have adj_320 := Lib.hid (adj_314.out.upA (.cells #[.int .i64 ((k : Int) - 1)] 3))
      clear adj_314
      have all_321 := Lib.hid (all_315.out.upA (.cells #[.int .i64 ((k : Int) - 1)] 3))
      clear all_315
      have p_322 := Lib.hid (p_319.out.upA (.cells #[.int .i64 ((k : Int) - 1)] 3))
      clear p_319
      have HB323 := Lib.hid (HB318.out.alloc HB318.out.size (.cells #[.int .i64 ((k : Int) - 1)] 3))
      clear HB318
      have f_324 := Lib.hid (Row.at1 w312 (w312.heap.size) (by simp) ((k : Int) - 1))
      have adj_325 := Lib.hid (adj_320.out.upA (.cells #[.int .i64 0] 3))
      clear adj_320
      have all_326 := Lib.hid (all_321.out.upA (.cells #[.int .i64 0] 3))
      clear all_321
      have p_327 := Lib.hid (p_322.out.upA (.cells #[.int .i64 0] 3))
      clear p_322
      have f_328 := Lib.hid (f_324.out.upA (.cells #[.int .i64 0] 3))
      clear f_324
      have HB329 := Lib.hid (HB323.out.alloc HB323.out.size (.cells #[.int .i64 0] 3))
      clear HB323
      have t_330 := Lib.hid (Row.at1 (w312.alloc (.cells #[.int .i64 ((k : Int) - 1)] 3)) (w312.heap.size + 1) (by simp) 0)
      go_wp2_with fail
      refine (path_is (lineA k) [((k : Int) - 1)] [0] ln (decide ((k : Int) = 1)) HLN.out _ _ _ _ adj_325.out f_328.out t_330.out).mono ?_
      rintro e w333 ⟨u331, rfl, r332, hb334⟩
      have adj_335 := Lib.hid (adj_325.out.up hb334)
      clear adj_325
      have all_336 := Lib.hid (all_326.out.up hb334)
      clear all_326
      have p_337 := Lib.hid (p_327.out.up hb334)
      clear p_327
      have f_338 := Lib.hid (f_328.out.up hb334)
      clear f_328
      have t_339 := Lib.hid (t_330.out.up hb334)
      clear t_330
      have HB340 := Lib.hid (below_next HB329.out (Nat.le_refl _) hb334)
      clear hb334 HB329
      have q_341 := Lib.hid (r332)
      clear r332
      clear f_338
      clear t_339
      clear q_341
      go_wp2_with fail
      refine (same_is _ _ (upTo k) (upTo k) _ p_337.out all_336.out Hul.out Hul.out (same_true rfl)).mono ?_
      rintro e w342 ⟨rfl, hb343⟩
      have adj_344 := Lib.hid (adj_335.out.up hb343)
      clear adj_335
      have all_345 := Lib.hid (all_336.out.up hb343)
      clear all_336
      have p_346 := Lib.hid (p_337.out.up hb343)
      clear p_337
      have HB347 := Lib.hid (below_next HB340.out (Nat.le_refl _) hb343)
      clear hb343 HB340
      clear p_346
      have adj_348 := Lib.hid (adj_344.out.upA (.cells #[.int .i64 0] 3))
      clear adj_344
      have all_349 := Lib.hid (all_345.out.upA (.cells #[.int .i64 0] 3))
      clear all_345
      have HB350 := Lib.hid (HB347.out.alloc HB347.out.size (.cells #[.int .i64 0] 3))
      clear HB347
      have f_351 := Lib.hid (Row.at1 w342 (w342.heap.size) (by simp) 0)
      go_wp2_with fail
      refine (from_is (lineA k) [0] (upTo k) HF1.out _ _ _ adj_348.out f_351.out).mono ?_
      rintro e w354 ⟨v352, rfl, r353, hb355⟩
      have adj_356 := Lib.hid (adj_348.out.up hb355)
      clear adj_348
      have all_357 := Lib.hid (all_349.out.up hb355)
      clear all_349
      have f_358 := Lib.hid (f_351.out.up hb355)
      clear f_351
      have HB359 := Lib.hid (below_next HB350.out (Nat.le_refl _) hb355)
      clear hb355 HB350
      have x_360 := Lib.hid (r353)
      clear r353
      clear f_358
      go_wp2_with fail
      refine (same_is _ _ (upTo k) (upTo k) _ x_360.out all_357.out Hul.out Hul.out (same_true rfl)).mono ?_
      rintro e w361 ⟨rfl, hb362⟩
      have adj_363 := Lib.hid (adj_356.out.up hb362)
      clear adj_356
      have all_364 := Lib.hid (all_357.out.up hb362)
      clear all_357
      have x_365 := Lib.hid (x_360.out.up hb362)
      clear x_360
      have HB366 := Lib.hid (below_next HB359.out (Nat.le_refl _) hb362)
      clear hb362 HB359
      clear x_365
      clear all_364
      have adj_367 := Lib.hid (adj_363.out.upA (.cells #[.int .i64 ((k : Int) - 1)] 3))
      clear adj_363
      have HB368 := Lib.hid (HB366.out.alloc HB366.out.size (.cells #[.int .i64 ((k : Int) - 1)] 3))
      clear HB366
      have f_369 := Lib.hid (Row.at1 w361 (w361.heap.size) (by simp) ((k : Int) - 1))
      go_wp2_with fail
      refine (from_is (lineA k) [((k : Int) - 1)] [((k : Int) - 1)] HF2.out _ _ _ adj_367.out f_369.out).mono ?_
      rintro e w372 ⟨v370, rfl, r371, hb373⟩
      have adj_374 := Lib.hid (adj_367.out.up hb373)
      clear adj_367
      have f_375 := Lib.hid (f_369.out.up hb373)
      clear f_369
      have HB376 := Lib.hid (below_next HB368.out (Nat.le_refl _) hb373)
      clear hb373 HB368
      have y_377 := Lib.hid (r371)
      clear r371
      clear f_375
      clear adj_374
      have y_378 := Lib.hid (y_377.out.upA (.cells #[.int .i64 ((k : Int) - 1)] 3))
      clear y_377
      have HB379 := Lib.hid (HB376.out.alloc HB376.out.size (.cells #[.int .i64 ((k : Int) - 1)] 3))
      clear HB376
      have t_380 := Lib.hid (Row.at1 w372 (w372.heap.size) (by simp) ((k : Int) - 1))
      go_wp2_with fail
      refine (same_is _ _ [((k : Int) - 1)] [((k : Int) - 1)] _ y_378.out t_380.out (by simp) (by simp) (same_true rfl)).mono ?_
      rintro e w381 ⟨rfl, hb382⟩
      have y_383 := Lib.hid (y_378.out.up hb382)
      clear y_378
      have t_384 := Lib.hid (t_380.out.up hb382)
      clear t_380
      have HB385 := Lib.hid (below_next HB379.out (Nat.le_refl _) hb382)
      clear hb382 HB379
      clear t_384
      clear y_383
      go_wp2
      go_ret
      exact ⟨rfl, HB385.out⟩

end Wp
end Go.Proofs.Ytjhkmilfhecdfaa
