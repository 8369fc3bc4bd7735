/- The document's indep of layer 10, walked: by depth; its Indep and its Rank (written by gen_vindep.py). -/
import Derived.Test.YtgadbnbhgpehjaaGreatDoorVPlain
import Derived.Test.YtgadbnbhgpehjaaGreatDoorQTD
import Derived.Test.YtgadbnbhgpehjaaGreatDoorZF
set_option maxHeartbeats 8000000
set_option maxRecDepth 100000
open Go.Lib (hid)
open Nat (le_refl)
namespace Go.Proofs.YtgadbnbhgpehjaaGreatDoor
open Go Go.RowKit
namespace Wp
def IndAt (k:Nat):Prop:=∀ (m:Mat) (v sv:Value) (s:List Int) (w:World),MatV w w.heap.size v m→Sml m→chk m=0→dp 4 m≤k→Row w w.heap.size sv s→InN (nN m) s→Calls Tryz.prog 46 #[v,sv] w (Says w (indB k m s))
theorem Xg8 (k:Nat) (m:Mat) (v sv:Value) (s:List Int) (w:World) (hv:MatV w w.heap.size v m) (hc:chk m=0) (hr:Row w w.heap.size sv s) (hS:InN (nN m) s) (ht:m.t<5):Calls Tryz.prog 46 #[v,sv] w (Says w (indB (k+1) m s)):=by
 have HC:Hid (∀ (v sv:Value) (W:World),MatV W W.heap.size v m→Row W W.heap.size sv s→Calls Tryz.prog 64 #[v,sv] W (Says W (indB (k+1) m s))):=hid fun v sv W h1 h2=>Xz5 k m v sv s W h1 hc h2 hS ht
 generalize indB (k+1) m s=R at *
 obtain ⟨lv,iv,rfl,hl2,hi2⟩:=hv.open
 obtain ⟨Al,cl,rfl,_⟩:=id hl2
 obtain ⟨Ai,ci,rfl,_⟩:=id hi2
 obtain ⟨As,cs,rfl,_⟩:=id hr
 have Hb0:=hid (Z1_ w m (.slice Al m.l.length cl) (.slice Ai m.i.length ci))
 have Hblk:=hid (Z3_ w m (.slice Al m.l.length cl) (.slice Ai m.i.length ci))
 have Hsv:=hid (hr.up Hb0.out)
 have Hv:=hid (hv.up Hb0.out)
 unfold boxed at *
 have g0:=Hblk.out.cell 0
 have g1:=Hblk.out.cell 1
 have g2:=Hblk.out.cell 2
 have g3:=Hblk.out.cell 3
 have g4:=Hblk.out.cell 4
 have g5:=Hblk.out.cell 5
 clear hv hr hS hl2 hi2
 go_enter Tryz.func46,Tryz.ntmps46
 go_wp2_with fail
 refine (HC.out _ _ _ Hv.out Hsv.out).mono ?_
 rintro e w1 ⟨rfl,hb1⟩
 have Hb1:=hid (Z0_ Hb0.out (le_refl _) hb1)
 clear hb1 g0 g1 g2 g3 g4 g5
 go_wp2
 go_ret
 exact ⟨rfl,Hb1.out⟩
theorem Vq5 (k:Nat) (m:Mat) (v sv:Value) (s:List Int) (w:World) (hv:MatV w w.heap.size v m) (hs:Sml m) (hc:chk m=0) (hr:Row w w.heap.size sv s) (hS:InN (nN m) s) (ih:IndAt k) (hd:dp 4 m≤k+1) (ht:m.t=5):Calls Tryz.prog 46 #[v,sv] w (Says w (indB (k+1) m s)):=by
 rw [ind_5 hc hS ht]
 have hsub:subB s (allL m.n)=true:=(N0_ (chk_n hc).1 (chk_n hc).2).2 hS
 have hIB:imgB m s=true:=by unfold imgB;rw [hsub,decide_eq_true hc,decide_eq_true (show m.t=5∨m.t=6 by omega)];rfl
 have hIL:imgL m s=imgM m s:=by unfold imgL;rw [hIB,if_pos rfl]
 have hin:=Zx9 hc (.inl ht) hS
 have hnm:=chk_n hc
 have hsl:=Y3_ hS
 have hn64:=(Z8_ hc).2
 have hsI:(s.length:Int)≤64:=by omega
 have hsB:s.length≤1048576:=by omega
 have Him:Hid (∀ (v sv:Value) (W:World),MatV W W.heap.size v m→Row W W.heap.size sv s→Calls Tryz.prog 65 #[v,sv] W (Q3_ W true (imgM m s))):=hid fun v sv W h1 h2=>by rw [← hIB,← hIL];exact G7_ m v sv s W h1 hs h2 hsB
 obtain ⟨lv,iv,rfl,hl2,hi2⟩:=hv.open
 obtain ⟨Al,cl,rfl,_⟩:=id hl2
 obtain ⟨Ai,ci,rfl,_⟩:=id hi2
 obtain ⟨As,cs,rfl,_⟩:=id hr
 obtain ⟨q1,q2,q3⟩:=J0_ hc (by omega)
 have hil:m.i.length=1:=by rw [q1];rfl
 obtain ⟨Ai',ci',he,_,hik⟩:=id hi2
 injection he with he1 he2 he3
 subst he1 he3
 obtain ⟨ai,ui,hA0,hab,hsix,hmv⟩:=hik 0 (by omega)
 subst hA0
 rw [show (0:Nat) * 6=0 from rfl,add_zero] at hsix
 rw [show m.i.getD 0 default=inn m from rfl] at hmv
 obtain ⟨lx,ix,hux,hlx,hix⟩:=hmv.open
 obtain ⟨x0,x1,x2,x3,x4,x5,hu6,s0,s1,s2,s3,s4,s5⟩:=hsix
 rw [hux] at hu6
 injection hu6 with hu6
 injection hu6 with hu6
 injection hu6 with h0 hu6
 injection hu6 with h1 hu6
 injection hu6 with h2 hu6
 injection hu6 with h3 hu6
 injection hu6 with h4 hu6
 injection hu6 with h5 _
 subst h0 h1 h2 h3 h4 h5
 have hsx:=sml_i hs (Y1_ m.i 0 default (by omega))
 rw [show m.i.getD 0 default=inn m from rfl] at hsx
 have hiI:(0:Int)<(m.i.length:Int):=by omega
 have hiN:0<m.i.length:=by omega
 obtain ⟨x,hx⟩:∃ x,inn m=x:=⟨_,rfl⟩
 simp only [hx] at hmv hlx hix s0 s1 s2 s3 s4 s5 hsx q2 q3 hux ⊢
 obtain ⟨Alx,clx,rfl,_⟩:=id hlx
 obtain ⟨Aix,cix,rfl,_⟩:=id hix
 subst hux
 obtain ⟨W0,hW0⟩:∃ W0,W0=w.alloc (.cells #[.int .i64 m.t,.int .i64 m.n,.int .i64 m.a,.int .i64 m.b,.slice Al m.l.length cl,.slice (some ai) m.i.length ci] 25):=⟨_,rfl⟩
 have hb0:Below w.heap.size w W0:=by rw [hW0];exact (Below.refl _ w).alloc (le_refl _) _
 have gb:∀ i,W0.cell? ⟨w.heap.size,i,none⟩=#[.int .i64 m.t,.int .i64 m.n,.int .i64 m.a,.int .i64 m.b,.slice Al m.l.length cl,.slice (some ai) m.i.length ci][i]?:=by rw [hW0];exact (Blk.new w 25 #[.int .i64 m.t,.int .i64 m.n,.int .i64 m.a,.int .i64 m.b,.slice Al m.l.length cl,.slice (some ai) m.i.length ci]).cell
 have t0:=(hb0.cell (p:=ai) hab).trans s0
 have t1:=(hb0.cell (p:=⟨ai.block,ai.off+1,none⟩) hab).trans s1
 have t2:=(hb0.cell (p:=⟨ai.block,ai.off+2,none⟩) hab).trans s2
 have t3:=(hb0.cell (p:=⟨ai.block,ai.off+3,none⟩) hab).trans s3
 have t4:=(hb0.cell (p:=⟨ai.block,ai.off+4,none⟩) hab).trans s4
 have t5:=(hb0.cell (p:=⟨ai.block,ai.off+5,none⟩) hab).trans s5
 obtain ⟨W1,hW1⟩:∃ W1,W1=(w.alloc (.cells #[.int .i64 m.t,.int .i64 m.n,.int .i64 m.a,.int .i64 m.b,.slice Al m.l.length cl,.slice (some ai) m.i.length ci] 25)).alloc (.cells #[.int .i64 x.t,.int .i64 x.n,.int .i64 x.a,.int .i64 x.b,.slice Alx x.l.length clx,.slice Aix x.i.length cix] 25):=⟨_,rfl⟩
 have HW1:=hid hW1
 have hb1:Below w.heap.size w W1:=by rw [hW1];exact ((Below.refl _ w).alloc (le_refl _) _).alloc (by simp) _
 have Hb1:=hid hb1
 have Hsv1:=hid (hr.up hb1)
 have Hx1:=hid (hmv.up hb1)
 have Hv1:=hid (hv.up hb1)
 have Hbm:Hid (Blk W1 w.heap.size 25 #[.int .i64 m.t,.int .i64 m.n,.int .i64 m.a,.int .i64 m.b,.slice Al m.l.length cl,.slice (some ai) m.i.length ci]):=hid (by rw [hW1];exact (Blk.new w _ _).alloc _)
 have Hbx:Hid (Blk W1 (w.heap.size+1) 25 #[.int .i64 x.t,.int .i64 x.n,.int .i64 x.a,.int .i64 x.b,.slice Alx x.l.length clx,.slice Aix x.i.length cix]):=hid (by rw [hW1];have:=Blk.new (w.alloc (.cells #[.int .i64 m.t,.int .i64 m.n,.int .i64 m.a,.int .i64 m.b,.slice Al m.l.length cl,.slice (some ai) m.i.length ci] 25)) 25 #[.int .i64 x.t,.int .i64 x.n,.int .i64 x.a,.int .i64 x.b,.slice Alx x.l.length clx,.slice Aix x.i.length cix];simpa using this)
 have hdx:dp 4 x≤k:=by omega
 rw [hx] at hin
 have Hih:Hid (∀ (v sv:Value) (W:World),MatV W W.heap.size v x→Row W W.heap.size sv (imgM m s)→Calls Tryz.prog 46 #[v,sv] W (Says W (indB k x (imgM m s)))):=hid fun v sv W h1 h2=>ih x v sv _ W h1 hsx q2 hdx h2 hin
 generalize indB k x (imgM m s)=R at *
 have d0:¬ m.t<5:=by omega
 have d5:(m.t==5)=true:=by simp;exact ht
 have d6:(m.t==6)=false:=by simp;omega
 have d7:(m.t==7)=false:=by simp;omega
 have d8:(m.t==8)=false:=by simp;omega
 clear ht hs hS hil hik he2 hlx hix s0 s1 s2 s3 s4 s5 hab hmv q1 hv hr hsx ih hin hsub hIB hIL hl2 hi2 hc hd q2 q3 hdx hnm
 go_enter Tryz.func46,Tryz.ntmps46
 rw [hW0] at t0 t1 t2 t3 t4 t5 gb
 have g0:=gb 0
 have g5:=gb 5
 clear hW0 gb hW1 hb0 hb1
 go_wp2_with fail
 rw [← HW1.out]
 refine (Him.out _ _ _ Hv1.out Hsv1.out).mono ?_
 rintro e w2 ⟨v2,rfl,hr2,hb2,_⟩
 have Hb2:=hid (Z0_ Hb1.out (le_refl _) hb2)
 have Hbm2:=hid (Hbm.out.below hb2 Hbm.out.lt)
 have Hbx2:=hid (Hbx.out.below hb2 Hbx.out.lt)
 replace Hx1:=hid (Hx1.out.up hb2)
 replace Hsv1:=hid (Hsv1.out.up hb2)
 have Hr2:=hid hr2
 have m0:=Hbm2.out.cell 0
 have n0:=Hbx2.out.cell 0
 have n1:=Hbx2.out.cell 1
 have n2:=Hbx2.out.cell 2
 have n3:=Hbx2.out.cell 3
 have n4:=Hbx2.out.cell 4
 have n5:=Hbx2.out.cell 5
 clear hb2 hr2 g0 g5 t0 t1 t2 t3 t4 t5 Hbm Hbx HW1
 go_wp2_with fail
 refine (Hih.out _ _ _ Hx1.out Hr2.out).mono ?_
 rintro e w3 ⟨rfl,hb3⟩
 have Hb3:=hid (Z0_ Hb2.out (le_refl _) hb3)
 clear hb3 m0 n0 n1 n2 n3 n4 n5
 go_wp2
 go_ret
 exact ⟨rfl,Hb3.out⟩
theorem Vq6 (k:Nat) (m:Mat) (v sv:Value) (s:List Int) (w:World) (hv:MatV w w.heap.size v m) (hs:Sml m) (hc:chk m=0) (hr:Row w w.heap.size sv s) (hS:InN (nN m) s) (ih:IndAt k) (hd:dp 4 m≤k+1) (ht:m.t=7):Calls Tryz.prog 46 #[v,sv] w (Says w (indB (k+1) m s)):=by
 rw [ind_7 hc hd hS ht]
 have hIB:imgB m s=false:=by unfold imgB;rw [decide_eq_false (show ¬ (m.t=5∨m.t=6) by omega)];simp
 have hIL:imgL m s=[]:=by unfold imgL;rw [hIB];rfl
 have hnm:=chk_n hc
 have hsl:=Y3_ hS
 have hn64:=(Z8_ hc).2
 have hsI:(s.length:Int)≤64:=by omega
 have hsB:s.length≤1048576:=by omega
 have Him:Hid (∀ (v sv:Value) (W:World),MatV W W.heap.size v m→Row W W.heap.size sv s→Calls Tryz.prog 65 #[v,sv] W (Q3_ W false [])):=hid fun v sv W h1 h2=>by rw [← hIB,← hIL];exact G7_ m v sv s W h1 hs h2 hsB
 obtain ⟨lv,iv,rfl,hl2,hi2⟩:=hv.open
 obtain ⟨Al,cl,rfl,_⟩:=id hl2
 obtain ⟨Ai,ci,rfl,_⟩:=id hi2
 obtain ⟨As,cs,rfl,_⟩:=id hr
 obtain ⟨q1,q2,q3⟩:=J0_ hc (by omega)
 have hil:m.i.length=1:=by rw [q1];rfl
 have hsame:=F3_ hc (.inl ht)
 obtain ⟨Ai',ci',he,_,hik⟩:=id hi2
 injection he with he1 he2 he3
 subst he1 he3
 obtain ⟨ai,ui,hA0,hab,hsix,hmv⟩:=hik 0 (by omega)
 subst hA0
 rw [show (0:Nat) * 6=0 from rfl,add_zero] at hsix
 rw [show m.i.getD 0 default=inn m from rfl] at hmv
 obtain ⟨lx,ix,hux,hlx,hix⟩:=hmv.open
 obtain ⟨x0,x1,x2,x3,x4,x5,hu6,s0,s1,s2,s3,s4,s5⟩:=hsix
 rw [hux] at hu6
 injection hu6 with hu6
 injection hu6 with hu6
 injection hu6 with h0 hu6
 injection hu6 with h1 hu6
 injection hu6 with h2 hu6
 injection hu6 with h3 hu6
 injection hu6 with h4 hu6
 injection hu6 with h5 _
 subst h0 h1 h2 h3 h4 h5
 have hsx:=sml_i hs (Y1_ m.i 0 default (by omega))
 rw [show m.i.getD 0 default=inn m from rfl] at hsx
 have hiI:(0:Int)<(m.i.length:Int):=by omega
 have hiN:0<m.i.length:=by omega
 obtain ⟨x,hx⟩:∃ x,inn m=x:=⟨_,rfl⟩
 simp only [hx] at hmv hlx hix s0 s1 s2 s3 s4 s5 hsx q2 q3 hux ⊢
 obtain ⟨Alx,clx,rfl,_⟩:=id hlx
 obtain ⟨Aix,cix,rfl,_⟩:=id hix
 subst hux
 obtain ⟨W0,hW0⟩:∃ W0,W0=w.alloc (.cells #[.int .i64 m.t,.int .i64 m.n,.int .i64 m.a,.int .i64 m.b,.slice Al m.l.length cl,.slice (some ai) m.i.length ci] 25):=⟨_,rfl⟩
 have hb0:Below w.heap.size w W0:=by rw [hW0];exact (Below.refl _ w).alloc (le_refl _) _
 have gb:∀ i,W0.cell? ⟨w.heap.size,i,none⟩=#[.int .i64 m.t,.int .i64 m.n,.int .i64 m.a,.int .i64 m.b,.slice Al m.l.length cl,.slice (some ai) m.i.length ci][i]?:=by rw [hW0];exact (Blk.new w 25 #[.int .i64 m.t,.int .i64 m.n,.int .i64 m.a,.int .i64 m.b,.slice Al m.l.length cl,.slice (some ai) m.i.length ci]).cell
 have t0:=(hb0.cell (p:=ai) hab).trans s0
 have t1:=(hb0.cell (p:=⟨ai.block,ai.off+1,none⟩) hab).trans s1
 have t2:=(hb0.cell (p:=⟨ai.block,ai.off+2,none⟩) hab).trans s2
 have t3:=(hb0.cell (p:=⟨ai.block,ai.off+3,none⟩) hab).trans s3
 have t4:=(hb0.cell (p:=⟨ai.block,ai.off+4,none⟩) hab).trans s4
 have t5:=(hb0.cell (p:=⟨ai.block,ai.off+5,none⟩) hab).trans s5
 obtain ⟨W1,hW1⟩:∃ W1,W1=(w.alloc (.cells #[.int .i64 m.t,.int .i64 m.n,.int .i64 m.a,.int .i64 m.b,.slice Al m.l.length cl,.slice (some ai) m.i.length ci] 25)).alloc (.cells #[.int .i64 x.t,.int .i64 x.n,.int .i64 x.a,.int .i64 x.b,.slice Alx x.l.length clx,.slice Aix x.i.length cix] 25):=⟨_,rfl⟩
 have HW1:=hid hW1
 have hb1:Below w.heap.size w W1:=by rw [hW1];exact ((Below.refl _ w).alloc (le_refl _) _).alloc (by simp) _
 have Hb1:=hid hb1
 have Hsv1:=hid (hr.up hb1)
 have Hx1:=hid (hmv.up hb1)
 have Hv1:=hid (hv.up hb1)
 have Hbm:Hid (Blk W1 w.heap.size 25 #[.int .i64 m.t,.int .i64 m.n,.int .i64 m.a,.int .i64 m.b,.slice Al m.l.length cl,.slice (some ai) m.i.length ci]):=hid (by rw [hW1];exact (Blk.new w _ _).alloc _)
 have Hbx:Hid (Blk W1 (w.heap.size+1) 25 #[.int .i64 x.t,.int .i64 x.n,.int .i64 x.a,.int .i64 x.b,.slice Alx x.l.length clx,.slice Aix x.i.length cix]):=hid (by rw [hW1];have:=Blk.new (w.alloc (.cells #[.int .i64 m.t,.int .i64 m.n,.int .i64 m.a,.int .i64 m.b,.slice Al m.l.length cl,.slice (some ai) m.i.length ci] 25)) 25 #[.int .i64 x.t,.int .i64 x.n,.int .i64 x.a,.int .i64 x.b,.slice Alx x.l.length clx,.slice Aix x.i.length cix];simpa using this)
 have hdx:dp 4 x≤k:=by omega
 rw [hx] at hsame
 have hSx:InN (nN x) s:=by unfold nN;rw [← hsame];exact hS
 have Hih:Hid (∀ (v sv:Value) (W:World),MatV W W.heap.size v x→Row W W.heap.size sv s→Calls Tryz.prog 46 #[v,sv] W (Says W (indB k x s))):=hid fun v sv W h1 h2=>ih x v sv _ W h1 hsx q2 hdx h2 hSx
 generalize indB k x s=R at *
 obtain ⟨Z,hZ⟩:∃ Z,(decide ((s.length:Int)≤m.a) && R)=Z:=⟨_,rfl⟩
 rw [hZ]
 have HZ:=hid hZ
 clear hZ
 have d0:¬ m.t<5:=by omega
 have d5:(m.t==5)=false:=by simp;omega
 have d6:(m.t==6)=false:=by simp;omega
 have d7:(m.t==7)=true:=by simp;exact ht
 have d8:(m.t==8)=false:=by simp;omega
 clear ht hs hS hil hik he2 hlx hix s0 s1 s2 s3 s4 s5 hab hmv q1 hv hr hsx ih hIB hIL hl2 hi2 hc hd q2 q3 hdx hnm hSx hsame
 go_enter Tryz.func46,Tryz.ntmps46
 rw [hW0] at t0 t1 t2 t3 t4 t5 gb
 have g0:=gb 0
 have g5:=gb 5
 clear hW0 gb hW1 hb0 hb1
 go_wp2_with fail
 rw [← HW1.out]
 refine (Him.out _ _ _ Hv1.out Hsv1.out).mono ?_
 rintro e w2 ⟨v2,rfl,hr2,hb2,_⟩
 have Hb2:=hid (Z0_ Hb1.out (le_refl _) hb2)
 have Hbm2:=hid (Hbm.out.below hb2 Hbm.out.lt)
 have Hbx2:=hid (Hbx.out.below hb2 Hbx.out.lt)
 replace Hx1:=hid (Hx1.out.up hb2)
 replace Hsv1:=hid (Hsv1.out.up hb2)
 have Hr2:=hid hr2
 have m0:=Hbm2.out.cell 0
 have m2:=Hbm2.out.cell 2
 have n0:=Hbx2.out.cell 0
 have n1:=Hbx2.out.cell 1
 have n2:=Hbx2.out.cell 2
 have n3:=Hbx2.out.cell 3
 have n4:=Hbx2.out.cell 4
 have n5:=Hbx2.out.cell 5
 clear hb2 hr2 g0 g5 t0 t1 t2 t3 t4 t5 Hbm Hbx HW1
 by_cases hle:(s.length:Int)≤m.a
 ·go_wp2_with fail
  refine (Hih.out _ _ _ Hx1.out Hsv1.out).mono ?_
  rintro e w3 ⟨rfl,hb3⟩
  have Hb3:=hid (Z0_ Hb2.out (le_refl _) hb3)
  clear hb3 m0 m2 n0 n1 n2 n3 n4 n5
  go_wp2
  go_ret
  exact ⟨by rw [← HZ.out,decide_eq_true hle,Bool.true_and];rfl,Hb3.out⟩
 ·go_wp2
  go_ret
  exact ⟨by rw [← HZ.out,decide_eq_false (by omega:¬ (s.length:Int)≤m.a),Bool.false_and];rfl,Hb2.out⟩
theorem Vq7 (k:Nat) (m:Mat) (v sv:Value) (s:List Int) (w:World) (hv:MatV w w.heap.size v m) (hs:Sml m) (hc:chk m=0) (hr:Row w w.heap.size sv s) (hS:InN (nN m) s) (ih:IndAt k) (hd:dp 4 m≤k+1) (ht:m.t=6):Calls Tryz.prog 46 #[v,sv] w (Says w (indB (k+1) m s)):=by
 rw [ind_6 hc hd hS ht]
 have hsub:subB s (allL m.n)=true:=(N0_ (chk_n hc).1 (chk_n hc).2).2 hS
 have hIB:imgB m s=true:=by unfold imgB;rw [hsub,decide_eq_true hc,decide_eq_true (show m.t=5∨m.t=6 by omega)];rfl
 have hIL:imgL m s=imgM m s:=by unfold imgL;rw [hIB,if_pos rfl]
 have hin:=Zx9 hc (.inr ht) hS
 have hrow:=Zx8 hc (.inr ht)
 have hll:m.l.length=1:=(B9_ hc (.inr ht)).1
 have hnm:=chk_n hc
 have hsl:=Y3_ hS
 have hn64:=(Z8_ hc).2
 have hsI:(s.length:Int)≤64:=by omega
 have hsB:s.length≤1048576:=by omega
 have Him:Hid (∀ (v sv:Value) (W:World),MatV W W.heap.size v m→Row W W.heap.size sv s→Calls Tryz.prog 65 #[v,sv] W (Q3_ W true (imgM m s))):=hid fun v sv W h1 h2=>by rw [← hIB,← hIL];exact G7_ m v sv s W h1 hs h2 hsB
 obtain ⟨lv,iv,rfl,hl2,hi2⟩:=hv.open
 obtain ⟨Al,cl,rfl,_⟩:=id hl2
 obtain ⟨Ai,ci,rfl,_⟩:=id hi2
 obtain ⟨As,cs,rfl,_⟩:=id hr
 obtain ⟨q1,q2,q3⟩:=J0_ hc (by omega)
 have hil:m.i.length=1:=by rw [q1];rfl
 obtain ⟨Ai',ci',he,_,hik⟩:=id hi2
 injection he with he1 he2 he3
 subst he1 he3
 obtain ⟨ai,ui,hA0,hab,hsix,hmv⟩:=hik 0 (by omega)
 subst hA0
 rw [show (0:Nat) * 6=0 from rfl,add_zero] at hsix
 rw [show m.i.getD 0 default=inn m from rfl] at hmv
 obtain ⟨lx,ix,hux,hlx,hix⟩:=hmv.open
 obtain ⟨x0,x1,x2,x3,x4,x5,hu6,s0,s1,s2,s3,s4,s5⟩:=hsix
 rw [hux] at hu6
 injection hu6 with hu6
 injection hu6 with hu6
 injection hu6 with h0 hu6
 injection hu6 with h1 hu6
 injection hu6 with h2 hu6
 injection hu6 with h3 hu6
 injection hu6 with h4 hu6
 injection hu6 with h5 _
 subst h0 h1 h2 h3 h4 h5
 have hsx:=sml_i hs (Y1_ m.i 0 default (by omega))
 rw [show m.i.getD 0 default=inn m from rfl] at hsx
 have hiI:(0:Int)<(m.i.length:Int):=by omega
 have hiN:0<m.i.length:=by omega
 obtain ⟨x,hx⟩:∃ x,inn m=x:=⟨_,rfl⟩
 simp only [hx] at hmv hlx hix s0 s1 s2 s3 s4 s5 hsx q2 q3 hux ⊢
 obtain ⟨Alx,clx,rfl,_⟩:=id hlx
 obtain ⟨Aix,cix,rfl,_⟩:=id hix
 subst hux
 obtain ⟨W0,hW0⟩:∃ W0,W0=w.alloc (.cells #[.int .i64 m.t,.int .i64 m.n,.int .i64 m.a,.int .i64 m.b,.slice Al m.l.length cl,.slice (some ai) m.i.length ci] 25):=⟨_,rfl⟩
 have hb0:Below w.heap.size w W0:=by rw [hW0];exact (Below.refl _ w).alloc (le_refl _) _
 have gb:∀ i,W0.cell? ⟨w.heap.size,i,none⟩=#[.int .i64 m.t,.int .i64 m.n,.int .i64 m.a,.int .i64 m.b,.slice Al m.l.length cl,.slice (some ai) m.i.length ci][i]?:=by rw [hW0];exact (Blk.new w 25 #[.int .i64 m.t,.int .i64 m.n,.int .i64 m.a,.int .i64 m.b,.slice Al m.l.length cl,.slice (some ai) m.i.length ci]).cell
 have t0:=(hb0.cell (p:=ai) hab).trans s0
 have t1:=(hb0.cell (p:=⟨ai.block,ai.off+1,none⟩) hab).trans s1
 have t2:=(hb0.cell (p:=⟨ai.block,ai.off+2,none⟩) hab).trans s2
 have t3:=(hb0.cell (p:=⟨ai.block,ai.off+3,none⟩) hab).trans s3
 have t4:=(hb0.cell (p:=⟨ai.block,ai.off+4,none⟩) hab).trans s4
 have t5:=(hb0.cell (p:=⟨ai.block,ai.off+5,none⟩) hab).trans s5
 obtain ⟨W1,hW1⟩:∃ W1,W1=(w.alloc (.cells #[.int .i64 m.t,.int .i64 m.n,.int .i64 m.a,.int .i64 m.b,.slice Al m.l.length cl,.slice (some ai) m.i.length ci] 25)).alloc (.cells #[.int .i64 x.t,.int .i64 x.n,.int .i64 x.a,.int .i64 x.b,.slice Alx x.l.length clx,.slice Aix x.i.length cix] 25):=⟨_,rfl⟩
 have HW1:=hid hW1
 have hb1:Below w.heap.size w W1:=by rw [hW1];exact ((Below.refl _ w).alloc (le_refl _) _).alloc (by simp) _
 have Hb1:=hid hb1
 have Hsv1:=hid (hr.up hb1)
 have Hx1:=hid (hmv.up hb1)
 have Hv1:=hid (hv.up hb1)
 have Hbm:Hid (Blk W1 w.heap.size 25 #[.int .i64 m.t,.int .i64 m.n,.int .i64 m.a,.int .i64 m.b,.slice Al m.l.length cl,.slice (some ai) m.i.length ci]):=hid (by rw [hW1];exact (Blk.new w _ _).alloc _)
 have Hbx:Hid (Blk W1 (w.heap.size+1) 25 #[.int .i64 x.t,.int .i64 x.n,.int .i64 x.a,.int .i64 x.b,.slice Alx x.l.length clx,.slice Aix x.i.length cix]):=hid (by rw [hW1];have:=Blk.new (w.alloc (.cells #[.int .i64 m.t,.int .i64 m.n,.int .i64 m.a,.int .i64 m.b,.slice Al m.l.length cl,.slice (some ai) m.i.length ci] 25)) 25 #[.int .i64 x.t,.int .i64 x.n,.int .i64 x.a,.int .i64 x.b,.slice Alx x.l.length clx,.slice Aix x.i.length cix];simpa using this)
 have hdx:dp 4 x≤k:=by omega
 have hx64:=(Z8_ q2).2
 rw [hx] at hin hrow
 obtain ⟨Al',cl',heL,_,hlk⟩:=id hl2
 injection heL with hel1 hel2 hel3
 subst hel1 hel3
 obtain ⟨ad,u0,hAd,had,hcu,hru⟩:=hlk 0 (by omega)
 subst hAd
 rw [add_zero] at hcu
 rw [show m.l.getD 0 []=row m 0 from rfl] at hru
 have hlI:(0:Int)<(m.l.length:Int):=by omega
 have hlN:0<m.l.length:=by omega
 obtain ⟨b1,_,b3,_⟩:=K8_ (rk_ok k x q2 hdx) hx64 (I:=indB k x) (fun t _=>X5_) hrow
 have hun:=B1_ hin b1
 have hil1:(imgM m s).length≤1048576:=by have:=Y3_ hin;omega
 have hbl1:(baseL (indB k x) [] (row m 0)).length≤1048576:=by have:=Y3_ b1;omega
 have hrl:(row m 0).length≤64:=by have:=Y3_ hrow;omega
 obtain ⟨Bs,hBs⟩:∃ Bs,baseL (indB k x) [] (row m 0)=Bs:=⟨_,rfl⟩
 rw [hBs] at hun hbl1 ⊢
 have Hbase:Hid (∀ (sv:Value) (W:World),MatV W W.heap.size (.agg #[.int .i64 x.t,.int .i64 x.n,.int .i64 x.a,.int .i64 x.b,.slice Alx x.l.length clx,.slice Aix x.i.length cix]) x→Row W W.heap.size sv (row m 0)→Calls Tryz.prog 49 #[.agg #[.int .i64 x.t,.int .i64 x.n,.int .i64 x.a,.int .i64 x.b,.slice Alx x.l.length clx,.slice Aix x.i.length cix],sv] W (Gives W Bs)):=hid fun sv W h1 h2=>by rw [← hBs];exact W7_ (nN x) hx64 (indB k x) _ _ _ _ _ _ sv (row m 0) W hrow hrl h2 fun t vt W' hW ht' hr'=>ih x _ vt t W' (h1.up hW) hsx q2 hdx hr' ht'
 have Hih:Hid (∀ (v sv:Value) (W:World),MatV W W.heap.size v x→Row W W.heap.size sv (Y2_ (imgM m s) Bs)→Calls Tryz.prog 46 #[v,sv] W (Says W (indB k x (Y2_ (imgM m s) Bs)))):=hid fun v sv W h1 h2=>ih x v sv _ W h1 hsx q2 hdx h2 hun
 generalize indB k x (Y2_ (imgM m s) Bs)=R at *
 generalize row m 0=rw0 at *
 have Hru:=hid (hru.up Hb1.out)
 have Hcu:=hid ((Hb1.out.cell (p:=ad) had).trans hcu)
 have Had:=hid (show ad.block<W1.heap.size from Nat.lt_of_lt_of_le had Hb1.out.size)
 have d0:¬ m.t<5:=by omega
 have d5:(m.t==5)=false:=by simp;omega
 have d6:(m.t==6)=true:=by simp;exact ht
 have d7:(m.t==7)=false:=by simp;omega
 have d8:(m.t==8)=false:=by simp;omega
 clear ht hs hS hil hik he2 hlx hix s0 s1 s2 s3 s4 s5 hab hmv q1 hv hr hsx ih hin hsub hIB hIL hl2 hi2 hc hd q2 q3 hdx hnm hrow hll hx64 hel2 hlk had hcu hru b1 b3 hun hrl hBs
 go_enter Tryz.func46,Tryz.ntmps46
 rw [hW0] at t0 t1 t2 t3 t4 t5 gb
 have g0:=gb 0
 have g5:=gb 5
 clear hW0 gb hW1 hb0 hb1
 go_wp2_with fail
 rw [← HW1.out]
 refine (Him.out _ _ _ Hv1.out Hsv1.out).mono ?_
 rintro e w2 ⟨v2,rfl,hr2,hb2,_⟩
 have Hb2:=hid (Z0_ Hb1.out (le_refl _) hb2)
 have Hbm2:=hid (Hbm.out.below hb2 Hbm.out.lt)
 have Hbx2:=hid (Hbx.out.below hb2 Hbx.out.lt)
 replace Hx1:=hid (Hx1.out.up hb2)
 replace Hsv1:=hid (Hsv1.out.up hb2)
 have Hr2:=hid hr2
 have m0:=Hbm2.out.cell 0
 have Hcu2:=hid ((hb2.cell (p:=ad) Had.out).trans Hcu.out)
 have Had2:=hid (show ad.block<w2.heap.size from Nat.lt_of_lt_of_le Had.out hb2.size)
 replace Hru:=hid (Hru.out.up hb2)
 obtain ⟨Ag,cg,hu0,_⟩:=id Hru.out
 subst hu0
 clear hb2 hr2 g0 g5 t0 t1 t2 t3 t4 t5 Hbm Hbx HW1
 go_wp2
 have hbd:=(Below.refl w2.heap.size w2).drew
 replace Hx1:=hid (Hx1.out.up hbd)
 replace Hr2:=hid (Hr2.out.up hbd)
 replace Hsv1:=hid (Hsv1.out.up hbd)
 replace Hru:=hid (Hru.out.up hbd)
 clear hbd
 have K1:Hid (∀ W,Below w2.drew.heap.size w2.drew W→W.cell? ⟨w.heap.size,4,none⟩=some (.slice (some ad) m.l.length cl)∧W.cell? ad=some (.slice Ag rw0.length cg)∧W.cell? ⟨w.heap.size+1,0,none⟩=some (.int .i64 x.t)∧W.cell? ⟨w.heap.size+1,1,none⟩=some (.int .i64 x.n)∧W.cell? ⟨w.heap.size+1,2,none⟩=some (.int .i64 x.a)∧W.cell? ⟨w.heap.size+1,3,none⟩=some (.int .i64 x.b)∧W.cell? ⟨w.heap.size+1,4,none⟩=some (.slice Alx x.l.length clx)∧W.cell? ⟨w.heap.size+1,5,none⟩=some (.slice Aix x.i.length cix)):=hid fun W hW=>⟨(Hbm2.out.drew.below hW Hbm2.out.lt).cell 4,(hW.cell (p:=ad) Had2.out).trans Hcu2.out,(Hbx2.out.drew.below hW Hbx2.out.lt).cell 0,(Hbx2.out.drew.below hW Hbx2.out.lt).cell 1,(Hbx2.out.drew.below hW Hbx2.out.lt).cell 2,(Hbx2.out.drew.below hW Hbx2.out.lt).cell 3,(Hbx2.out.drew.below hW Hbx2.out.lt).cell 4,(Hbx2.out.drew.below hW Hbx2.out.lt).cell 5⟩
 have HB:Hid (Below w2.drew.heap.size w2.drew w2.drew):=hid (Below.refl _ _)
 clear Hbm2 Hbx2 Hv1 m0
 generalize w.heap.size+1=B1 at *
 go_region_held3 (fun W=>W.cell? ⟨w.heap.size,4,none⟩=some (.slice (some ad) m.l.length cl)∧W.cell? ad=some (.slice Ag rw0.length cg)∧W.cell? ⟨B1,0,none⟩=some (.int .i64 x.t)∧W.cell? ⟨B1,1,none⟩=some (.int .i64 x.n)∧W.cell? ⟨B1,2,none⟩=some (.int .i64 x.a)∧W.cell? ⟨B1,3,none⟩=some (.int .i64 x.b)∧W.cell? ⟨B1,4,none⟩=some (.slice Alx x.l.length clx)∧W.cell? ⟨B1,5,none⟩=some (.slice Aix x.i.length cix))
  (exact K1.out _ HB.out)
  (first
  | (go_at_call 49;refine (Hbase.out _ _ Hx1.out Hru.out).mono ?_;rintro e w3 ⟨v3,rfl,hr3,hb3⟩;replace HB:=hid (Z0_ HB.out (le_refl _) hb3);replace Hx1:=hid (Hx1.out.up hb3);replace Hr2:=hid (Hr2.out.up hb3);have Hr3:=hid hr3;clear hr3 hb3)
  | (go_at_call 42;refine (I5_ _ _ (imgM m s) Bs _ Hr2.out Hr3.out hil1 hbl1).mono ?_;rintro e w4 ⟨v4,rfl,hr4,hb4⟩;replace HB:=hid (Z0_ HB.out (le_refl _) hb4);replace Hx1:=hid (Hx1.out.up hb4);have Hr4:=hid hr4;clear hr4 hb4)
  | (go_at_call 46;refine (Hih.out _ _ _ Hx1.out Hr4.out).mono ?_;rintro e w5 ⟨rfl,hb5⟩;replace HB:=hid (Z0_ HB.out (le_refl _) hb5);clear hb5))
 all_goals
  have Hb9:=hid (Z0_ Hb2.out.drew (le_refl _) HB.out)
  clear HB
  go_simp
  go_wp2
  go_ret
  exact ⟨rfl,Hb9.out⟩
theorem Vq8 (k:Nat) (m:Mat) (v sv:Value) (s:List Int) (w:World) (hv:MatV w w.heap.size v m) (hs:Sml m) (hc:chk m=0) (hr:Row w w.heap.size sv s) (hS:InN (nN m) s) (ih:IndAt k) (hd:dp 4 m≤k+1) (ht:m.t=8):Calls Tryz.prog 46 #[v,sv] w (Says w (indB (k+1) m s)):=by
 rw [ind_8 hc hd hS ht]
 have hIB:imgB m s=false:=by unfold imgB;rw [decide_eq_false (show ¬ (m.t=5∨m.t=6) by omega)];simp
 have hIL:imgL m s=[]:=by unfold imgL;rw [hIB];rfl
 have hnm:=chk_n hc
 have hsl:=Y3_ hS
 have hn64:=(Z8_ hc).2
 have hsI:(s.length:Int)≤64:=by omega
 have hsB:s.length≤1048576:=by omega
 have Him:Hid (∀ (v sv:Value) (W:World),MatV W W.heap.size v m→Row W W.heap.size sv s→Calls Tryz.prog 65 #[v,sv] W (Q3_ W false [])):=hid fun v sv W h1 h2=>by rw [← hIB,← hIL];exact G7_ m v sv s W h1 hs h2 hsB
 obtain ⟨lv,iv,rfl,hl2,hi2⟩:=hv.open
 obtain ⟨Al,cl,rfl,_⟩:=id hl2
 obtain ⟨Ai,ci,rfl,_⟩:=id hi2
 obtain ⟨As,cs,rfl,_⟩:=id hr
 obtain ⟨q1,q2,q3⟩:=J0_ hc (by omega)
 have hil:m.i.length=1:=by rw [q1];rfl
 have hsame:=F3_ hc (.inr ht)
 obtain ⟨Ai',ci',he,_,hik⟩:=id hi2
 injection he with he1 he2 he3
 subst he1 he3
 obtain ⟨ai,ui,hA0,hab,hsix,hmv⟩:=hik 0 (by omega)
 subst hA0
 rw [show (0:Nat) * 6=0 from rfl,add_zero] at hsix
 rw [show m.i.getD 0 default=inn m from rfl] at hmv
 obtain ⟨lx,ix,hux,hlx,hix⟩:=hmv.open
 obtain ⟨x0,x1,x2,x3,x4,x5,hu6,s0,s1,s2,s3,s4,s5⟩:=hsix
 rw [hux] at hu6
 injection hu6 with hu6
 injection hu6 with hu6
 injection hu6 with h0 hu6
 injection hu6 with h1 hu6
 injection hu6 with h2 hu6
 injection hu6 with h3 hu6
 injection hu6 with h4 hu6
 injection hu6 with h5 _
 subst h0 h1 h2 h3 h4 h5
 have hsx:=sml_i hs (Y1_ m.i 0 default (by omega))
 rw [show m.i.getD 0 default=inn m from rfl] at hsx
 have hiI:(0:Int)<(m.i.length:Int):=by omega
 have hiN:0<m.i.length:=by omega
 obtain ⟨x,hx⟩:∃ x,inn m=x:=⟨_,rfl⟩
 simp only [hx] at hmv hlx hix s0 s1 s2 s3 s4 s5 hsx q2 q3 hux ⊢
 obtain ⟨Alx,clx,rfl,_⟩:=id hlx
 obtain ⟨Aix,cix,rfl,_⟩:=id hix
 subst hux
 obtain ⟨W0,hW0⟩:∃ W0,W0=w.alloc (.cells #[.int .i64 m.t,.int .i64 m.n,.int .i64 m.a,.int .i64 m.b,.slice Al m.l.length cl,.slice (some ai) m.i.length ci] 25):=⟨_,rfl⟩
 have hb0:Below w.heap.size w W0:=by rw [hW0];exact (Below.refl _ w).alloc (le_refl _) _
 have gb:∀ i,W0.cell? ⟨w.heap.size,i,none⟩=#[.int .i64 m.t,.int .i64 m.n,.int .i64 m.a,.int .i64 m.b,.slice Al m.l.length cl,.slice (some ai) m.i.length ci][i]?:=by rw [hW0];exact (Blk.new w 25 #[.int .i64 m.t,.int .i64 m.n,.int .i64 m.a,.int .i64 m.b,.slice Al m.l.length cl,.slice (some ai) m.i.length ci]).cell
 have t0:=(hb0.cell (p:=ai) hab).trans s0
 have t1:=(hb0.cell (p:=⟨ai.block,ai.off+1,none⟩) hab).trans s1
 have t2:=(hb0.cell (p:=⟨ai.block,ai.off+2,none⟩) hab).trans s2
 have t3:=(hb0.cell (p:=⟨ai.block,ai.off+3,none⟩) hab).trans s3
 have t4:=(hb0.cell (p:=⟨ai.block,ai.off+4,none⟩) hab).trans s4
 have t5:=(hb0.cell (p:=⟨ai.block,ai.off+5,none⟩) hab).trans s5
 obtain ⟨W1,hW1⟩:∃ W1,W1=(w.alloc (.cells #[.int .i64 m.t,.int .i64 m.n,.int .i64 m.a,.int .i64 m.b,.slice Al m.l.length cl,.slice (some ai) m.i.length ci] 25)).alloc (.cells #[.int .i64 x.t,.int .i64 x.n,.int .i64 x.a,.int .i64 x.b,.slice Alx x.l.length clx,.slice Aix x.i.length cix] 25):=⟨_,rfl⟩
 have HW1:=hid hW1
 have hb1:Below w.heap.size w W1:=by rw [hW1];exact ((Below.refl _ w).alloc (le_refl _) _).alloc (by simp) _
 have Hb1:=hid hb1
 have Hsv1:=hid (hr.up hb1)
 have Hx1:=hid (hmv.up hb1)
 have Hv1:=hid (hv.up hb1)
 have Hbm:Hid (Blk W1 w.heap.size 25 #[.int .i64 m.t,.int .i64 m.n,.int .i64 m.a,.int .i64 m.b,.slice Al m.l.length cl,.slice (some ai) m.i.length ci]):=hid (by rw [hW1];exact (Blk.new w _ _).alloc _)
 have Hbx:Hid (Blk W1 (w.heap.size+1) 25 #[.int .i64 x.t,.int .i64 x.n,.int .i64 x.a,.int .i64 x.b,.slice Alx x.l.length clx,.slice Aix x.i.length cix]):=hid (by rw [hW1];have:=Blk.new (w.alloc (.cells #[.int .i64 m.t,.int .i64 m.n,.int .i64 m.a,.int .i64 m.b,.slice Al m.l.length cl,.slice (some ai) m.i.length ci] 25)) 25 #[.int .i64 x.t,.int .i64 x.n,.int .i64 x.a,.int .i64 x.b,.slice Alx x.l.length clx,.slice Aix x.i.length cix];simpa using this)
 have hdx:dp 4 x≤k:=by omega
 have hx64:=(Z8_ q2).2
 rw [hx] at hsame
 have hnx:nN m=nN x:=by unfold nN;rw [hsame]
 have hall:InN (nN x) (allL m.n):=by rw [← hnx];exact Zx6 hnm.1 hnm.2
 have hrest:InN (nN x) (Z7_ (allL m.n) s):=by rw [← hnx];exact F2_ hnm.1 hnm.2 hS.1
 have hal:=D2_ m.n
 have hal64:(allL m.n).length≤64:=by have:=Y3_ hall;omega
 have hrl64:(Z7_ (allL m.n) s).length≤64:=by have:=Y3_ hrest;omega
 obtain ⟨B1s,hB1s⟩:∃ B1s,baseL (indB k x) [] (Z7_ (allL m.n) s)=B1s:=⟨_,rfl⟩
 obtain ⟨B2s,hB2s⟩:∃ B2s,baseL (indB k x) [] (allL m.n)=B2s:=⟨_,rfl⟩
 rw [hB1s,hB2s]
 obtain ⟨z,hz⟩:∃ z,decide (B1s.length=B2s.length)=z:=⟨_,rfl⟩
 have Hbe:Hid (((B1s.length:Int)==(B2s.length:Int))=z):=hid (by rw [← hz,Bool.eq_iff_iff,beq_iff_eq,decide_eq_true_iff];omega)
 rw [hz]
 have Hbase1:Hid (∀ (sv:Value) (W:World),MatV W W.heap.size (.agg #[.int .i64 x.t,.int .i64 x.n,.int .i64 x.a,.int .i64 x.b,.slice Alx x.l.length clx,.slice Aix x.i.length cix]) x→Row W W.heap.size sv (Z7_ (allL m.n) s)→Calls Tryz.prog 49 #[.agg #[.int .i64 x.t,.int .i64 x.n,.int .i64 x.a,.int .i64 x.b,.slice Alx x.l.length clx,.slice Aix x.i.length cix],sv] W (Gives W B1s)):=hid fun sv W h1 h2=>by rw [← hB1s];exact W7_ (nN x) hx64 (indB k x) _ _ _ _ _ _ sv _ W hrest hrl64 h2 fun t vt W' hW ht' hr'=>ih x _ vt t W' (h1.up hW) hsx q2 hdx hr' ht'
 have Hbase2:Hid (∀ (sv:Value) (W:World),MatV W W.heap.size (.agg #[.int .i64 x.t,.int .i64 x.n,.int .i64 x.a,.int .i64 x.b,.slice Alx x.l.length clx,.slice Aix x.i.length cix]) x→Row W W.heap.size sv (allL m.n)→Calls Tryz.prog 49 #[.agg #[.int .i64 x.t,.int .i64 x.n,.int .i64 x.a,.int .i64 x.b,.slice Alx x.l.length clx,.slice Aix x.i.length cix],sv] W (Gives W B2s)):=hid fun sv W h1 h2=>by rw [← hB2s];exact W7_ (nN x) hx64 (indB k x) _ _ _ _ _ _ sv _ W hall hal64 h2 fun t vt W' hW ht' hr'=>ih x _ vt t W' (h1.up hW) hsx q2 hdx hr' ht'
 have d0:¬ m.t<5:=by omega
 have d5:(m.t==5)=false:=by simp;omega
 have d6:(m.t==6)=false:=by simp;omega
 have d7:(m.t==7)=false:=by simp;omega
 have d8:(m.t==8)=true:=by simp;exact ht
 clear ht hs hS hil hik he2 hlx hix s0 s1 s2 s3 s4 s5 hab hmv q1 hv hr hsx ih hIB hIL hl2 hi2 hc hd q2 q3 hdx hnm hsame hx64 hnx hall hrest hal64 hrl64 hB1s hB2s hz
 go_enter Tryz.func46,Tryz.ntmps46
 rw [hW0] at t0 t1 t2 t3 t4 t5 gb
 have g0:=gb 0
 have g5:=gb 5
 clear hW0 gb hW1 hb0 hb1
 go_wp2_with fail
 rw [← HW1.out]
 refine (Him.out _ _ _ Hv1.out Hsv1.out).mono ?_
 rintro e w2 ⟨v2,rfl,hr2,hb2,_⟩
 have Hb2:=hid (Z0_ Hb1.out (le_refl _) hb2)
 have Hbm2:=hid (Hbm.out.below hb2 Hbm.out.lt)
 have Hbx2:=hid (Hbx.out.below hb2 Hbx.out.lt)
 replace Hx1:=hid (Hx1.out.up hb2)
 replace Hsv1:=hid (Hsv1.out.up hb2)
 have Hr2:=hid hr2
 have m0:=Hbm2.out.cell 0
 clear hb2 hr2 g0 g5 t0 t1 t2 t3 t4 t5 Hbm Hbx HW1
 go_wp2
 have hbd:=(Below.refl w2.heap.size w2).drew
 replace Hx1:=hid (Hx1.out.up hbd)
 replace Hsv1:=hid (Hsv1.out.up hbd)
 clear hbd
 have K1:Hid (∀ W,Below w2.drew.heap.size w2.drew W→W.cell? ⟨w.heap.size,1,none⟩=some (.int .i64 m.n)∧W.cell? ⟨w.heap.size+1,0,none⟩=some (.int .i64 x.t)∧W.cell? ⟨w.heap.size+1,1,none⟩=some (.int .i64 x.n)∧W.cell? ⟨w.heap.size+1,2,none⟩=some (.int .i64 x.a)∧W.cell? ⟨w.heap.size+1,3,none⟩=some (.int .i64 x.b)∧W.cell? ⟨w.heap.size+1,4,none⟩=some (.slice Alx x.l.length clx)∧W.cell? ⟨w.heap.size+1,5,none⟩=some (.slice Aix x.i.length cix)):=hid fun W hW=>⟨(Hbm2.out.drew.below hW Hbm2.out.lt).cell 1,(Hbx2.out.drew.below hW Hbx2.out.lt).cell 0,(Hbx2.out.drew.below hW Hbx2.out.lt).cell 1,(Hbx2.out.drew.below hW Hbx2.out.lt).cell 2,(Hbx2.out.drew.below hW Hbx2.out.lt).cell 3,(Hbx2.out.drew.below hW Hbx2.out.lt).cell 4,(Hbx2.out.drew.below hW Hbx2.out.lt).cell 5⟩
 have HB:Hid (Below w2.drew.heap.size w2.drew w2.drew):=hid (Below.refl _ _)
 clear Hbm2 Hbx2 Hv1 m0 Hr2
 generalize w.heap.size+1=B1 at *
 go_region_held3 (fun W=>W.cell? ⟨w.heap.size,1,none⟩=some (.int .i64 m.n)∧W.cell? ⟨B1,0,none⟩=some (.int .i64 x.t)∧W.cell? ⟨B1,1,none⟩=some (.int .i64 x.n)∧W.cell? ⟨B1,2,none⟩=some (.int .i64 x.a)∧W.cell? ⟨B1,3,none⟩=some (.int .i64 x.b)∧W.cell? ⟨B1,4,none⟩=some (.slice Alx x.l.length clx)∧W.cell? ⟨B1,5,none⟩=some (.slice Aix x.i.length cix))
  (exact K1.out _ HB.out)
  (first
  | (go_at_call_of 49 vm;refine (Hbase1.out _ _ Hx1.out HM.out).mono ?_;rintro e w5 ⟨vb1,rfl,hr5,hb5⟩;replace HB:=hid (Z0_ HB.out (le_refl _) hb5);(try replace Hx1:=hid (Hx1.out.up hb5));(try replace Hsv1:=hid (Hsv1.out.up hb5));(try replace HA1:=hid (HA1.out.up hb5));(try replace HA2:=hid (HA2.out.up hb5));(try replace HM:=hid (HM.out.up hb5));obtain ⟨Ab1,cb1,rfl,_⟩:=hr5;clear hb5)
  | (go_at_call_of 49 va2;refine (Hbase2.out _ _ Hx1.out HA2.out).mono ?_;rintro e w6 ⟨vb2,rfl,hr6,hb6⟩;replace HB:=hid (Z0_ HB.out (le_refl _) hb6);(try replace Hx1:=hid (Hx1.out.up hb6));(try replace Hsv1:=hid (Hsv1.out.up hb6));(try replace HA1:=hid (HA1.out.up hb6));(try replace HA2:=hid (HA2.out.up hb6));(try replace HM:=hid (HM.out.up hb6));obtain ⟨Ab2,cb2,rfl,_⟩:=hr6;clear hb6)
  | (go_at_call 24;refine (K7_ _ _ (allL m.n) s _ HA1.out Hsv1.out hal hsB).mono ?_;rintro e w4 ⟨vm,rfl,hr4,hb4⟩;replace HB:=hid (Z0_ HB.out (le_refl _) hb4);(try replace Hx1:=hid (Hx1.out.up hb4));(try replace Hsv1:=hid (Hsv1.out.up hb4));(try replace HA1:=hid (HA1.out.up hb4));(try replace HA2:=hid (HA2.out.up hb4));(try replace HM:=hid (HM.out.up hb4));have HM:=hid hr4;clear hr4 hb4)
  | (have _ha:=Ab1;go_at_call 25;refine (L4_ m.n _).mono ?_;rintro e w7 ⟨va2,rfl,hr7,hb7⟩;replace HB:=hid (Z0_ HB.out (le_refl _) hb7);(try replace Hx1:=hid (Hx1.out.up hb7));(try replace Hsv1:=hid (Hsv1.out.up hb7));(try replace HA1:=hid (HA1.out.up hb7));(try replace HA2:=hid (HA2.out.up hb7));(try replace HM:=hid (HM.out.up hb7));have HA2:=hid hr7;clear hr7 hb7)
  | (go_at_call 25;refine (L4_ m.n _).mono ?_;rintro e w3 ⟨va1,rfl,hr3,hb3⟩;replace HB:=hid (Z0_ HB.out (le_refl _) hb3);(try replace Hx1:=hid (Hx1.out.up hb3));(try replace Hsv1:=hid (Hsv1.out.up hb3));(try replace HA1:=hid (HA1.out.up hb3));(try replace HA2:=hid (HA2.out.up hb3));(try replace HM:=hid (HM.out.up hb3));have HA1:=hid hr3;clear hr3 hb3))
 all_goals
  have Hb9:=hid (Z0_ Hb2.out.drew (le_refl _) HB.out)
  clear HB
  go_simp
  go_wp2
  go_ret
  exact ⟨by rw [← Hbe.out];rfl,Hb9.out⟩
theorem Vq9 (k:Nat) (m:Mat) (v sv:Value) (s:List Int) (w:World) (hv:MatV w w.heap.size v m) (hs:Sml m) (hc:chk m=0) (hr:Row w w.heap.size sv s) (hS:InN (nN m) s) (ih:IndAt k) (hd:dp 4 m≤k+1) (ht:m.t=9):Calls Tryz.prog 46 #[v,sv] w (Says w (indB (k+1) m s)):=by
 rw [ind_9 hc hd hS ht]
 obtain ⟨P,hP⟩:∃ P:Nat→Bool,P=fun j=>indB k (m.i.getD j default) (betL s (offN m.i j:Nat) (nN (m.i.getD j default):Nat)):=⟨_,rfl⟩
 rw [← hP]
 have hIB:imgB m s=false:=by unfold imgB;rw [decide_eq_false (show ¬ (m.t=5∨m.t=6) by omega)];simp
 have hIL:imgL m s=[]:=by unfold imgL;rw [hIB];rfl
 obtain ⟨hsum,h8⟩:=Zf6 hc ht
 have h3:=(takes_iff.1 (X0_ (Y4_ hc)).2.2.1).2.2.2
 rw [ht] at h3
 have h3a:(1:Int)≤(m.i.length:Int):=h3.1
 have hoff:∀ j,offN m.i j≤64:=fun j=>by have:=Yr8 m.i j;have:=(Z8_ hc).2;omega
 have hok:∀ j,j<m.i.length→chk (m.i.getD j default)=0∧dp 4 (m.i.getD j default)≤k∧Sml (m.i.getD j default):=fun j hj=>by
  have hm:=Y1_ m.i j default hj
  have:=X4_ hc hm
  exact ⟨this.1,by omega,sml_i hs hm⟩
 have hsr:∀ j,j<s.length→0≤s.getD j 0∧s.getD j 0≤64:=fun j hj=>by have:=F9_ hS hj;have:=(Z8_ hc).2;omega
 have hnm:=chk_n hc
 have hsl:=Y3_ hS
 have hn64:=(Z8_ hc).2
 have hsI:(s.length:Int)≤64:=by omega
 have hsB:s.length≤1048576:=by omega
 have Him:Hid (∀ (v sv:Value) (W:World),MatV W W.heap.size v m→Row W W.heap.size sv s→Calls Tryz.prog 65 #[v,sv] W (Q3_ W false [])):=hid fun v sv W h1 h2=>by rw [← hIB,← hIL];exact G7_ m v sv s W h1 hs h2 hsB
 obtain ⟨lv,iv,rfl,hl2,hi2⟩:=hv.open
 obtain ⟨Al,cl,rfl,_⟩:=id hl2
 obtain ⟨Ai,ci,rfl,_⟩:=id hi2
 obtain ⟨As,cs,rfl,_⟩:=id hr
 obtain ⟨Ai',ci',he,_,hik⟩:=id hi2
 injection he with he1 he2 he3
 subst he1 he3
 obtain ⟨ai,ui,hA0,hab,hsix,hmv⟩:=hik 0 (by omega)
 subst hA0
 rw [show (0:Nat) * 6=0 from rfl,add_zero] at hsix
 rw [show m.i.getD 0 default=inn m from rfl] at hmv
 obtain ⟨lx,ix,hux,hlx,hix⟩:=hmv.open
 obtain ⟨x0,x1,x2,x3,x4,x5,hu6,s0,s1,s2,s3,s4,s5⟩:=hsix
 rw [hux] at hu6
 injection hu6 with hu6
 injection hu6 with hu6
 injection hu6 with h0 hu6
 injection hu6 with h1 hu6
 injection hu6 with h2 hu6
 injection hu6 with h3 hu6
 injection hu6 with h4 hu6
 injection hu6 with h5 _
 subst h0 h1 h2 h3 h4 h5
 have hsx:=sml_i hs (Y1_ m.i 0 default (by omega))
 rw [show m.i.getD 0 default=inn m from rfl] at hsx
 have hiI:(0:Int)<(m.i.length:Int):=by omega
 have hiN:0<m.i.length:=by omega
 obtain ⟨x,hx⟩:∃ x,inn m=x:=⟨_,rfl⟩
 simp only [hx] at hmv hlx hix s0 s1 s2 s3 s4 s5 hsx hux ⊢
 obtain ⟨Alx,clx,rfl,_⟩:=id hlx
 obtain ⟨Aix,cix,rfl,_⟩:=id hix
 subst hux
 obtain ⟨W0,hW0⟩:∃ W0,W0=w.alloc (.cells #[.int .i64 m.t,.int .i64 m.n,.int .i64 m.a,.int .i64 m.b,.slice Al m.l.length cl,.slice (some ai) m.i.length ci] 25):=⟨_,rfl⟩
 have hb0:Below w.heap.size w W0:=by rw [hW0];exact (Below.refl _ w).alloc (le_refl _) _
 have gb:∀ i,W0.cell? ⟨w.heap.size,i,none⟩=#[.int .i64 m.t,.int .i64 m.n,.int .i64 m.a,.int .i64 m.b,.slice Al m.l.length cl,.slice (some ai) m.i.length ci][i]?:=by rw [hW0];exact (Blk.new w 25 #[.int .i64 m.t,.int .i64 m.n,.int .i64 m.a,.int .i64 m.b,.slice Al m.l.length cl,.slice (some ai) m.i.length ci]).cell
 have t0:=(hb0.cell (p:=ai) hab).trans s0
 have t1:=(hb0.cell (p:=⟨ai.block,ai.off+1,none⟩) hab).trans s1
 have t2:=(hb0.cell (p:=⟨ai.block,ai.off+2,none⟩) hab).trans s2
 have t3:=(hb0.cell (p:=⟨ai.block,ai.off+3,none⟩) hab).trans s3
 have t4:=(hb0.cell (p:=⟨ai.block,ai.off+4,none⟩) hab).trans s4
 have t5:=(hb0.cell (p:=⟨ai.block,ai.off+5,none⟩) hab).trans s5
 obtain ⟨W1,hW1⟩:∃ W1,W1=(w.alloc (.cells #[.int .i64 m.t,.int .i64 m.n,.int .i64 m.a,.int .i64 m.b,.slice Al m.l.length cl,.slice (some ai) m.i.length ci] 25)).alloc (.cells #[.int .i64 x.t,.int .i64 x.n,.int .i64 x.a,.int .i64 x.b,.slice Alx x.l.length clx,.slice Aix x.i.length cix] 25):=⟨_,rfl⟩
 have HW1:=hid hW1
 have hb1:Below w.heap.size w W1:=by rw [hW1];exact ((Below.refl _ w).alloc (le_refl _) _).alloc (by simp) _
 have Hb1:=hid hb1
 have Hsv1:=hid (hr.up hb1)
 have Hx1:=hid (hmv.up hb1)
 have Hv1:=hid (hv.up hb1)
 have Hbm:Hid (Blk W1 w.heap.size 25 #[.int .i64 m.t,.int .i64 m.n,.int .i64 m.a,.int .i64 m.b,.slice Al m.l.length cl,.slice (some ai) m.i.length ci]):=hid (by rw [hW1];exact (Blk.new w _ _).alloc _)
 have Hbx:Hid (Blk W1 (w.heap.size+1) 25 #[.int .i64 x.t,.int .i64 x.n,.int .i64 x.a,.int .i64 x.b,.slice Alx x.l.length clx,.slice Aix x.i.length cix]):=hid (by rw [hW1];have:=Blk.new (w.alloc (.cells #[.int .i64 m.t,.int .i64 m.n,.int .i64 m.a,.int .i64 m.b,.slice Al m.l.length cl,.slice (some ai) m.i.length ci] 25)) 25 #[.int .i64 x.t,.int .i64 x.n,.int .i64 x.a,.int .i64 x.b,.slice Alx x.l.length clx,.slice Aix x.i.length cix];simpa using this)
 have Hik:Hid (∀ j,j<m.i.length→∃ u,ai.block<w.heap.size∧SixV w (ai.add (j * 6)) u∧MatV w w.heap.size u (m.i.getD j default)):=hid fun j hj=>by
  obtain ⟨aj,uj,hAj,habj,h1,h2⟩:=hik j hj
  obtain rfl:=Option.some.inj hAj
  exact ⟨uj,habj,h1,h2⟩
 have HP:=hid hP
 have Hoff:=hid hoff
 have Hok:=hid hok
 have Hsr:=hid hsr
 have HS:=hid hS
 have HIH:=hid ih
 have hlI:(m.i.length:Int)≤8:=by omega
 have hsl64:s.length≤64:=by omega
 have d0:¬ m.t<5:=by omega
 have d5:(m.t==5)=false:=by simp;omega
 have d6:(m.t==6)=false:=by simp;omega
 have d7:(m.t==7)=false:=by simp;omega
 have d8:(m.t==8)=false:=by simp;omega
 clear ht hs hS hik he2 hlx hix s0 s1 s2 s3 s4 s5 hab hmv hv hsx ih hIB hIL hl2 hi2 hc hd hnm hP hoff hok hsr hsum h3 h3a
 have Hsv0:=hid hr
 clear hr
 go_enter Tryz.func46,Tryz.ntmps46
 rw [hW0] at t0 t1 t2 t3 t4 t5 gb
 have g0:=gb 0
 have g5:=gb 5
 clear hW0 gb hW1 hb0 hb1
 go_wp2_with fail
 rw [← HW1.out]
 refine (Him.out _ _ _ Hv1.out Hsv1.out).mono ?_
 rintro e w2 ⟨v2,rfl,hr2,hb2,_⟩
 have Hb2:=hid (Z0_ Hb1.out (le_refl _) hb2)
 have Hbm2:=hid (Hbm.out.below hb2 Hbm.out.lt)
 have Hbx2:=hid (Hbx.out.below hb2 Hbx.out.lt)
 replace Hx1:=hid (Hx1.out.up hb2)
 replace Hsv1:=hid (Hsv1.out.up hb2)
 have Hr2:=hid hr2
 have m0:=Hbm2.out.cell 0
 clear hb2 hr2 g0 g5 t0 t1 t2 t3 t4 t5 Hbm Hbx Hbx2 HW1
 go_wp2
 go_loopw [4,8,9] (fun _ vf vj wr=>∃ j:Nat,vj=.int .i64 (j:Int)∧j≤m.i.length∧vf=.int .i64 (offN m.i j:Nat)∧Hid ((List.range j).all P=true∧Below w2.heap.size w2 wr)) (fun _ _ vj _=>m.i.length - (intOf vj).toNat)
 case atStart=>exact ⟨0,rfl,Nat.zero_le _,by simp [offN],by simp,Below.refl _ _⟩
 case round =>
  obtain ⟨j,rfl,hj,rfl,HT⟩:=hrel
  have HBw:=hid (Z0_ Hb2.out (le_refl _) HT.out.2)
  have k5:=(HT.out.2.cell (p:=⟨w.heap.size,5,none⟩) Hbm2.out.lt).trans (Hbm2.out.cell 5)
  clear m0
  by_cases hlt:j<m.i.length
  ·have hltI:(j:Int)<(m.i.length:Int):=by omega
   obtain ⟨uj,haj,hsix,hmv⟩:=Hik.out j hlt
   obtain ⟨c1,c2,c3⟩:=Hok.out j hlt
   have hos:=Zj1 hlt
   have ho1:=Hoff.out j
   have ho2:=Hoff.out (j+1)
   have hPj:P j=indB k (m.i.getD j default) (betL s (offN m.i j:Nat) (nN (m.i.getD j default):Nat)):=by rw [HP.out]
   have hmv1:=hmv.up HBw.out
   obtain ⟨ly,iy,huy,hly,hiy⟩:=hmv1.open
   obtain ⟨y0,y1,y2,y3,y4,y5,hu6,s0,s1,s2,s3,s4,s5⟩:=hsix.below HBw.out (by rw [Z2_];exact haj)
   rw [huy] at hu6
   injection hu6 with hu6
   injection hu6 with hu6
   injection hu6 with h0 hu6
   injection hu6 with h1 hu6
   injection hu6 with h2 hu6
   injection hu6 with h3 hu6
   injection hu6 with h4 hu6
   injection hu6 with h5 _
   subst h0 h1 h2 h3 h4 h5
   generalize m.i.getD j default=y at *
   obtain ⟨Aly,cly,rfl,_⟩:=id hly
   obtain ⟨Aiy,ciy,rfl,_⟩:=id hiy
   subst huy
   have hyn:=Z8_ c1
   have hbin:=Zu5 (f:=offN m.i j) (n:=nN y) HS.out hyn.2
   rw [hyn.1] at hPj
   have Haj:Hid ((ai.add (j * 6)).block<wr.drew.heap.size):=hid (by rw [Z2_];exact Nat.lt_of_lt_of_le haj HBw.out.drew.size)
   have Hs0:=hid (show wr.drew.cell? _=_ from s0)
   have Hs1:=hid (show wr.drew.cell? _=_ from s1)
   have Hs2:=hid (show wr.drew.cell? _=_ from s2)
   have Hs3:=hid (show wr.drew.cell? _=_ from s3)
   have Hs4:=hid (show wr.drew.cell? _=_ from s4)
   have Hs5:=hid (show wr.drew.cell? _=_ from s5)
   have hbd:=(Below.refl wr.heap.size wr).drew
   have Hsv:=hid ((Hsv0.out.up HBw.out).up hbd)
   have Hy:=hid (hmv1.up hbd)
   have K1:Hid (∀ W,Below wr.drew.heap.size wr.drew W→W.cell? ⟨w.heap.size,5,none⟩=some (.slice (some ai) m.i.length ci)∧W.cell? (ai.add (j * 6))=some (.int .i64 y.t)∧W.cell? (⟨(ai.add (j * 6)).block,(ai.add (j * 6)).off+1,none⟩)=some (.int .i64 y.n)∧W.cell? (⟨(ai.add (j * 6)).block,(ai.add (j * 6)).off+2,none⟩)=some (.int .i64 y.a)∧W.cell? (⟨(ai.add (j * 6)).block,(ai.add (j * 6)).off+3,none⟩)=some (.int .i64 y.b)∧W.cell? (⟨(ai.add (j * 6)).block,(ai.add (j * 6)).off+4,none⟩)=some (.slice Aly y.l.length cly)∧W.cell? (⟨(ai.add (j * 6)).block,(ai.add (j * 6)).off+5,none⟩)=some (.slice Aiy y.i.length ciy)):=hid fun W hWr=>⟨((Z0_ HT.out.2.drew (le_refl _) hWr).cell (p:=⟨w.heap.size,5,none⟩) Hbm2.out.lt).trans (Hbm2.out.cell 5),(hWr.cell (p:=ai.add (j * 6)) Haj.out).trans Hs0.out,(hWr.cell (p:=⟨(ai.add (j * 6)).block,(ai.add (j * 6)).off+1,none⟩) Haj.out).trans Hs1.out,(hWr.cell (p:=⟨(ai.add (j * 6)).block,(ai.add (j * 6)).off+2,none⟩) Haj.out).trans Hs2.out,(hWr.cell (p:=⟨(ai.add (j * 6)).block,(ai.add (j * 6)).off+3,none⟩) Haj.out).trans Hs3.out,(hWr.cell (p:=⟨(ai.add (j * 6)).block,(ai.add (j * 6)).off+4,none⟩) Haj.out).trans Hs4.out,(hWr.cell (p:=⟨(ai.add (j * 6)).block,(ai.add (j * 6)).off+5,none⟩) Haj.out).trans Hs5.out⟩
   have HB:Hid (Below wr.drew.heap.size wr.drew wr.drew):=hid (Below.refl _ _)
   obtain ⟨F,hF⟩:∃ F,offN m.i j=F:=⟨_,rfl⟩
   rw [hF] at hbin hos ho1 hPj ⊢
   have Hih:Hid (∀ (v sv:Value) (W:World),MatV W W.heap.size v y→Row W W.heap.size sv (betL s (F:Nat) y.n)→Calls Tryz.prog 46 #[v,sv] W (Says W (P j))):=hid fun v sv W h1 h2=>by rw [hPj];rw [← hyn.1] at h2 ⊢;exact HIH.out y v sv _ W h1 c3 c1 c2 h2 hbin
   have hFI:0≤(F:Int)∧(F:Int)≤1000:=by omega
   have hXI:0≤y.n∧y.n≤1000:=by omega
   have hw2:IntKind.i64.wrap ((F:Int)+y.n)=(F:Int)+y.n:=by rw [IntKind.wrap_i64];omega
   have hw1:IntKind.i64.wrap ((j:Int)+1)=(j:Int)+1:=by rw [IntKind.wrap_i64];omega
   have Hos:Hid ((F:Int)+y.n=(offN m.i (j+1):Nat)):=hid (by rw [hos];omega)
   obtain ⟨z,hz⟩:∃ z,P j=z:=⟨_,rfl⟩
   rw [hz] at Hih
   have Hz:=hid hz
   clear hbd hbin hos ho1 ho2 hF hyn hmv hmv1 hly hiy hsix c1 c2 c3 s0 s1 s2 s3 s4 s5 hz hPj haj Hs0 Hs1 Hs2 Hs3 Hs4 Hs5 Haj
   go_wp2
   go_region_held3 (fun W=>W.cell? ⟨w.heap.size,5,none⟩=some (.slice (some ai) m.i.length ci)∧W.cell? (ai.add (j * 6))=some (.int .i64 y.t)∧W.cell? (⟨(ai.add (j * 6)).block,(ai.add (j * 6)).off+1,none⟩)=some (.int .i64 y.n)∧W.cell? (⟨(ai.add (j * 6)).block,(ai.add (j * 6)).off+2,none⟩)=some (.int .i64 y.a)∧W.cell? (⟨(ai.add (j * 6)).block,(ai.add (j * 6)).off+3,none⟩)=some (.int .i64 y.b)∧W.cell? (⟨(ai.add (j * 6)).block,(ai.add (j * 6)).off+4,none⟩)=some (.slice Aly y.l.length cly)∧W.cell? (⟨(ai.add (j * 6)).block,(ai.add (j * 6)).off+5,none⟩)=some (.slice Aiy y.i.length ciy))
    (exact K1.out _ HB.out)
    (first
    | (go_at_call 66;refine (Zu9 _ s (F:Int) y.n _ Hsv.out Hsr.out hFI hXI hsl64).mono ?_;rintro e w3 ⟨v3,rfl,hr3,hb3⟩;replace HB:=hid (Z0_ HB.out (le_refl _) hb3);replace Hy:=hid (Hy.out.up hb3);have Hr3:=hid hr3;clear hr3 hb3)
    | (go_at_call 46;refine (Hih.out _ _ _ Hy.out Hr3.out).mono ?_;rintro e w4 ⟨rfl,hb4⟩;replace HB:=hid (Z0_ HB.out (le_refl _) hb4);clear hb4))
   all_goals
    obtain ⟨r5,_,r1,_⟩:=K1.out _ HB.out
    have Hb9:=hid (Z0_ HT.out.2.drew (le_refl _) HB.out)
    have Hb8:=hid (Z0_ HBw.out.drew (le_refl _) HB.out)
    clear HB
    go_simp
    cases z
    ·have HF:Hid ((List.range m.i.length).all P=false):=hid (Zq1 hlt Hz.out)
     go_wp2
     go_ret
     exact ⟨by rw [HF.out];rfl,Hb8.out⟩
    ·have HF:Hid ((List.range (j+1)).all P=true):=hid (Zq0 hlt HT.out.1 Hz.out)
     go_wp2
     go_roundw
     case rel=>exact ⟨j+1,by go_num,by omega,by rw [← Hos.out],HF.out,Hb9.out⟩
     case measure=>simp [intOf];omega
  ·have hje:j=m.i.length:=by omega
   subst hje
   have HF:=hid HT.out.1
   go_wp2
   go_ret
   exact ⟨by rw [HF.out];rfl,HBw.out⟩
theorem Zg7:∀ k,IndAt k
 | 0=>fun m _ _ _ _ _ _ _ hd _ _=>absurd hd (by have:=Zz8 4 m;omega)
 | k+1=>fun m v sv s w hv hs hc hd hr hS=>by
  have ih:=Zg7 k
  have htag:=Zf5 hc
  rcases (by omega:m.t<5∨m.t=5∨m.t=6∨m.t=7∨m.t=8∨m.t=9) with ht | ht | ht | ht | ht | ht
  ·exact Xg8 k m v sv s w hv hc hr hS ht
  ·exact Vq5 k m v sv s w hv hs hc hr hS ih hd ht
  ·exact Vq7 k m v sv s w hv hs hc hr hS ih hd ht
  ·exact Vq6 k m v sv s w hv hs hc hr hS ih hd ht
  ·exact Vq8 k m v sv s w hv hs hc hr hS ih hd ht
  ·exact Vq9 k m v sv s w hv hs hc hr hS ih hd ht
theorem Zc8 (m:Mat) (v sv:Value) (s:List Int) (w:World) (hv:MatV w w.heap.size v m) (hs:Sml m) (hr:Row w w.heap.size sv s):Calls Tryz.prog 21 #[v,sv] w (Says w (indT m s)):=by
 have Hs:=hid hs
 obtain ⟨lv,iv,hve,_,_⟩:=hv.open
 obtain ⟨As,cs,rfl,_⟩:=id hr
 have Hb0:=hid (Z1_ w m lv iv)
 have Hv0:=hid (hv.up Hb0.out)
 have Hr0:=hid (hr.up Hb0.out)
 have Hblk0:=hid (Z3_ w m lv iv)
 have g0:=Hblk0.out.cell 0
 have g1:=Hblk0.out.cell 1
 have g2:=Hblk0.out.cell 2
 have g3:=Hblk0.out.cell 3
 have g4:=Hblk0.out.cell 4
 have g5:=Hblk0.out.cell 5
 subst hve
 unfold boxed at *
 rcases hm:mayI m s with _ | _
 ·have Hm:=hid hm
  have hR:indT m s=false:=by unfold indT rankT;rw [hm,if_neg (by decide)];exact decide_eq_false (by omega)
  rw [hR]
  clear hv hs hr hm hR
  go_enter Tryz.func21,Tryz.ntmps21
  go_wp2_with fail
  refine (L5_ m _ _ s _ Hv0.out Hs.out Hr0.out).mono ?_
  rintro e w1 ⟨rfl,hb1⟩
  rw [Hm.out]
  have Hb1:=hid (Z0_ Hb0.out (le_refl _) hb1)
  clear hb1 g0 g1 g2 g3 g4 g5
  go_wp2
  go_ret
  exact ⟨rfl,Hb1.out⟩
 ·have Hm:=hid hm
  have Hi:=hid (mayI_iff.1 hm)
  rw [Vq4 hm]
  have Hind:Hid (∀ (v sv:Value) (W:World),MatV W W.heap.size v m→Row W W.heap.size sv s→Calls Tryz.prog 46 #[v,sv] W (Says W (indB 4 m s))):=hid fun v sv W h1 h2=>Zg7 4 m v sv s W h1 Hs.out Hi.out.1 (chk_ok.1 Hi.out.1).1 h2 Hi.out.2
  generalize indB 4 m s=R at *
  clear hv hs hr hm
  go_enter Tryz.func21,Tryz.ntmps21
  go_wp2_with fail
  refine (L5_ m _ _ s _ Hv0.out Hs.out Hr0.out).mono ?_
  rintro e w1 ⟨rfl,hb1⟩
  rw [Hm.out]
  have Hb1:=hid (Z0_ Hb0.out (le_refl _) hb1)
  have Hr1:=hid (Hr0.out.up hb1)
  have Hv1:=hid (Hv0.out.up hb1)
  have Hblk1:=hid (Hblk0.out.below hb1 Hblk0.out.lt)
  clear hb1 g0 g1 g2 g3 g4 g5
  have g0:=Hblk1.out.cell 0
  have g1:=Hblk1.out.cell 1
  have g2:=Hblk1.out.cell 2
  have g3:=Hblk1.out.cell 3
  have g4:=Hblk1.out.cell 4
  have g5:=Hblk1.out.cell 5
  go_wp2_with fail
  refine (Hind.out _ _ _ Hv1.out Hr1.out).mono ?_
  rintro e w2 ⟨rfl,hb2⟩
  have Hb2:=hid (Z0_ Hb1.out (le_refl _) hb2)
  clear hb2 g0 g1 g2 g3 g4 g5
  go_wp2
  go_ret
  exact ⟨rfl,Hb2.out⟩
theorem Zo3 (m:Mat) (v sv:Value) (s:List Int) (w:World) (hv:MatV w w.heap.size v m) (hs:Sml m) (hr:Row w w.heap.size sv s):Calls Tryz.prog 26 #[v,sv] w (Tells w (rankT m s)):=by
 have Hs:=hid hs
 obtain ⟨lv,iv,hve,_,_⟩:=hv.open
 obtain ⟨As,cs,rfl,_⟩:=id hr
 have Hb0:=hid (Z1_ w m lv iv)
 have Hv0:=hid (hv.up Hb0.out)
 have Hr0:=hid (hr.up Hb0.out)
 have Hblk0:=hid (Z3_ w m lv iv)
 have g0:=Hblk0.out.cell 0
 have g1:=Hblk0.out.cell 1
 have g2:=Hblk0.out.cell 2
 have g3:=Hblk0.out.cell 3
 have g4:=Hblk0.out.cell 4
 have g5:=Hblk0.out.cell 5
 subst hve
 unfold boxed at *
 unfold rankT
 rcases hm:mayI m s with _ | _
 ·rw [if_neg (by decide)]
  have Hm:=hid hm
  clear hv hs hr hm
  go_enter Tryz.func26,Tryz.ntmps26
  go_wp2_with fail
  refine (L5_ m _ _ s _ Hv0.out Hs.out Hr0.out).mono ?_
  rintro e w1 ⟨rfl,hb1⟩
  rw [Hm.out]
  have Hb1:=hid (Z0_ Hb0.out (le_refl _) hb1)
  clear hb1 g0 g1 g2 g3 g4 g5
  go_wp2
  go_ret
  exact ⟨rfl,Hb1.out⟩
 ·rw [if_pos rfl]
  have Hm:=hid hm
  have Hi:=hid (mayI_iff.1 hm)
  have hd:=(chk_ok.1 Hi.out.1).1
  have hn64:=(Z8_ Hi.out.1).2
  have hsl:=Y3_ Hi.out.2
  have hlen:=(K8_ (rk_ok 4 m Hi.out.1 hd) hn64 (I:=indB 4 m) (fun t _=>X5_) Hi.out.2).2.2.1
  rw [← hlen]
  have Hbase:Hid (∀ (c0 c1 c2 c3 c4 c5 sv:Value) (W:World),MatV W W.heap.size (.agg #[c0,c1,c2,c3,c4,c5]) m→Row W W.heap.size sv s→Calls Tryz.prog 49 #[.agg #[c0,c1,c2,c3,c4,c5],sv] W (Gives W (baseL (indB 4 m) [] s))):=hid fun c0 c1 c2 c3 c4 c5 sv W h1 h2=>W7_ (nN m) hn64 (indB 4 m) c0 c1 c2 c3 c4 c5 sv s W Hi.out.2 (by omega) h2 fun t vt W' hW ht' hr'=>Zg7 4 m _ vt t W' (h1.up hW) Hs.out Hi.out.1 hd hr' ht'
  generalize baseL (indB 4 m) [] s=T at *
  clear hv hs hr hm hd hlen hsl hn64
  go_enter Tryz.func26,Tryz.ntmps26
  go_wp2_with fail
  refine (L5_ m _ _ s _ Hv0.out Hs.out Hr0.out).mono ?_
  rintro e w1 ⟨rfl,hb1⟩
  rw [Hm.out]
  have Hb1:=hid (Z0_ Hb0.out (le_refl _) hb1)
  have Hr1:=hid (Hr0.out.up hb1)
  have Hv1:=hid (Hv0.out.up hb1)
  have Hblk1:=hid (Hblk0.out.below hb1 Hblk0.out.lt)
  clear hb1 g0 g1 g2 g3 g4 g5
  have g0:=Hblk1.out.cell 0
  have g1:=Hblk1.out.cell 1
  have g2:=Hblk1.out.cell 2
  have g3:=Hblk1.out.cell 3
  have g4:=Hblk1.out.cell 4
  have g5:=Hblk1.out.cell 5
  go_wp2_with fail
  refine (Hbase.out _ _ _ _ _ _ _ _ Hv1.out Hr1.out).mono ?_
  rintro e w2 ⟨v2,rfl,hr2,hb2⟩
  obtain ⟨A2,c2,rfl,_⟩:=hr2
  have Hb2:=hid (Z0_ Hb1.out (le_refl _) hb2)
  clear hb2 g0 g1 g2 g3 g4 g5
  go_wp2
  go_ret
  exact ⟨rfl,Hb2.out⟩
end Wp
end Go.Proofs.YtgadbnbhgpehjaaGreatDoor
