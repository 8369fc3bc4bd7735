/- The calls whose answers the document fixes, of what may be exchanged, walked: they are as it fixes them (written by gen_vfix.py). -/
import Derived.Test.YtgadbnbhgpehjaaGreatDoorVTurn
import Derived.Test.YtgadbnbhgpehjaaGreatDoorZH
set_option maxHeartbeats 16000000
set_option maxRecDepth 100000
open Go.Lib (hid)
open Nat (le_refl)
namespace Go.Proofs.YtgadbnbhgpehjaaGreatDoor
open Go Go.RowKit
namespace Wp
def u2M:Mat:=.mk 0 2 1 0 [] []
def u1M:Mat:=.mk 0 1 1 0 [] []
def indU2 (s:List Int):Bool:=mayI u2M s && decide (min 1 (cnt (memP s) 2)=s.length)
theorem Zq3 (s:List Int):indT u2M s=indU2 s:=by
 unfold indT rankT indU2
 cases mayI u2M s
 ·simp
 ·rw [if_pos rfl,rkP_0 rfl]
  show decide (((min 1 (cnt (memP s) 2):Nat):Int)=_)=_
  simp
  omega
theorem Va0:adjG u2M u2M [0]=[[1],[0]]:=by
 unfold adjG arcsG P5_
 simp only [Zq3]
 decide +kernel
theorem Va1:addG u2M [0]=[]:=by
 unfold addG
 simp only [Zq3]
 decide +kernel
theorem Va2:addG u2M []=[0,1]:=by
 unfold addG
 simp only [Zq3]
 decide +kernel
theorem Va3:mayS u2M u2M [0,1]=false:=by
 unfold mayS
 simp only [Zq3]
 decide +kernel
theorem Va4:mayS u2M u2M [0]=true:=by
 unfold mayS
 simp only [Zq3]
 decide +kernel
theorem Va5:mayS u2M u2M []=true:=by
 unfold mayS
 simp only [Zq3]
 decide +kernel
theorem Va6:mayS u2M u2M [1]=true:=by
 unfold mayS
 simp only [Zq3]
 decide +kernel
theorem Va7:mayS u2M u1M []=false:=by
 unfold mayS
 rw [decide_eq_false (by decide)]
 rfl
theorem Va8:turnL [0,2] [3,2,1]=[0,1,3]:=by decide +kernel
theorem Xw2:turnL [] [1,1]=[]:=by decide +kernel
theorem Zq4 {w:World} {B:Nat} {v:Value} (h:Row w B v []):∃ A c,v=.slice A 0 c:=by
 obtain ⟨A,c,h,_⟩:=h
 exact ⟨A,c,h⟩
theorem cG1 (E:Nat→Addr) (sv:Value) (W:World) (hr:Row W W.heap.size sv [0]) (hE:Env E W):Calls Tryz.prog 11 #[.agg #[.int .i64 0,.int .i64 2,.int .i64 1,.int .i64 0,.slice none 0 0,.slice none 0 0],.agg #[.int .i64 0,.int .i64 2,.int .i64 1,.int .i64 0,.slice none 0 0,.slice none 0 0],sv] W (G6_ W [[1],[0]] [] [] 0):=by
 have h:=S6_ E u2M u2M _ _ sv [0] W (Q7_ W _ 0 2 1 0) (Q7_ W _ 0 2 1 0) (Q8_ ..) (Q8_ ..) hr hE (mayS_iff.1 Va4)
 rw [Va0,Va1] at h
 exact h
theorem cG2 (E:Nat→Addr) (W:World) (hE:Env E W):Calls Tryz.prog 11 #[.agg #[.int .i64 0,.int .i64 2,.int .i64 1,.int .i64 0,.slice none 0 0,.slice none 0 0],.agg #[.int .i64 0,.int .i64 2,.int .i64 1,.int .i64 0,.slice none 0 0,.slice none 0 0],.slice none 0 0] W (G6_ W (adjG u2M u2M []) [0,1] [0,1] 0):=by
 have h:=S6_ E u2M u2M _ _ (.slice none 0 0) [] W (Q7_ W _ 0 2 1 0) (Q7_ W _ 0 2 1 0) (Q8_ ..) (Q8_ ..) (Row.nil_ _ _) hE (mayS_iff.1 Va5)
 rw [Va2] at h
 exact h
theorem cG3 (E:Nat→Addr) (sv:Value) (W:World) (hr:Row W W.heap.size sv [0,1]) (hE:Env E W):Calls Tryz.prog 11 #[.agg #[.int .i64 0,.int .i64 2,.int .i64 1,.int .i64 0,.slice none 0 0,.slice none 0 0],.agg #[.int .i64 0,.int .i64 2,.int .i64 1,.int .i64 0,.slice none 0 0,.slice none 0 0],sv] W (G6_ W [] [] [] 1) :=
 Zw5 E u2M u2M _ _ sv [0,1] W (Q7_ W _ 0 2 1 0) (Q7_ W _ 0 2 1 0) (Q8_ ..) (Q8_ ..) hr (by decide) hE Va3
theorem cM1 (E:Nat→Addr) (sv:Value) (W:World) (hr:Row W W.heap.size sv [1]) (hE:Env E W):Calls Tryz.prog 13 #[.agg #[.int .i64 0,.int .i64 2,.int .i64 1,.int .i64 0,.slice none 0 0,.slice none 0 0],.agg #[.int .i64 0,.int .i64 2,.int .i64 1,.int .i64 0,.slice none 0 0,.slice none 0 0],sv] W (Says W true):=by
 rw [← Va6]
 exact P9_ E u2M u2M _ _ sv [1] W (Q7_ W _ 0 2 1 0) (Q7_ W _ 0 2 1 0) (Q8_ ..) (Q8_ ..) hr (by decide) hE
theorem cM2 (E:Nat→Addr) (W:World) (hE:Env E W):Calls Tryz.prog 13 #[.agg #[.int .i64 0,.int .i64 2,.int .i64 1,.int .i64 0,.slice none 0 0,.slice none 0 0],.agg #[.int .i64 0,.int .i64 1,.int .i64 1,.int .i64 0,.slice none 0 0,.slice none 0 0],.slice none 0 0] W (Says W false):=by
 rw [← Va7]
 exact P9_ E u2M u1M _ _ (.slice none 0 0) [] W (Q7_ W _ 0 2 1 0) (Q7_ W _ 0 1 1 0) (Q8_ ..) (Q8_ ..) (Row.nil_ _ _) (by decide) hE
theorem cT1 (u v:Value) (W:World) (h1:Row W W.heap.size u [0,2]) (h2:Row W W.heap.size v [3,2,1]):Calls Tryz.prog 17 #[u,v] W (Gives W [0,1,3]):=by
 rw [← Va8]
 exact Zc9 u v _ _ W h1 h2 (by decide) (by decide)
theorem cT2 (v:Value) (W:World) (h2:Row W W.heap.size v [1,1]):Calls Tryz.prog 17 #[.slice none 0 0,v] W (Gives W []):=by
 rw [← Xw2]
 exact Zc9 _ v _ _ W (Row.nil_ _ _) h2 (by decide) (by decide)
theorem cS (u v:Value) (l:List Int) (W:World) (h1:Row W W.heap.size u l) (h2:Row W W.heap.size v l) (hl:l.length≤1000):Calls Tryz.prog 16 #[u,v] W (Says W true) :=
 Xt2 u v l l W h1 h2 (by omega) (by omega) (by unfold sameB;simp)
theorem Xk7 (w:World) (o:Obj) (x:Int):Row ((w.alloc o).alloc (.cells #[.int .i64 x] 3)) ((w.alloc o).alloc (.cells #[.int .i64 x] 3)).heap.size (.slice (some ⟨w.heap.size+1,0,none⟩) 1 1) [x]:=by
 have h:=Row.here (Row.lit1 (w.alloc o) x)
 rwa [show (w.alloc o).heap.size=w.heap.size+1 by simp] at h
theorem Va9 (w:World) (o:Obj) (x y z:Int):Row ((w.alloc o).alloc (.cells #[.int .i64 x,.int .i64 y,.int .i64 z] 3)) ((w.alloc o).alloc (.cells #[.int .i64 x,.int .i64 y,.int .i64 z] 3)).heap.size (.slice (some ⟨w.heap.size+1,0,none⟩) 3 3) [x,y,z]:=by
 have h:=Row.here (Row.lit3 (w.alloc o) x y z)
 rwa [show (w.alloc o).heap.size=w.heap.size+1 by simp] at h
theorem Xw3 (W:World) {va vb:Value} {a b:List Int} (ha:Row W W.heap.size va a) (hb:Row W W.heap.size vb b):Rows2 (W.alloc (.cells #[va,vb] 26)) (W.alloc (.cells #[va,vb] 26)).heap.size (.slice (some ⟨W.heap.size,0,none⟩) 2 2) [a,b]:=by
 have hB:=Blk.new W 26 #[va,vb]
 refine ⟨_,2,rfl,⟨le_refl _,by decide,fun h=>(by cases h)⟩,fun k hk=>?_⟩
 match k,hk with
 | 0,_=>exact ⟨⟨W.heap.size,0,none⟩,va,rfl,by simp,hB.cell 0,ha.upA _⟩
 | 1,_=>exact ⟨⟨W.heap.size,0,none⟩,vb,rfl,by simp,hB.cell 1,hb.upA _⟩
theorem Xz7 (w:World):Rows2 (((w.alloc (.cells #[.int .i64 1] 3)).alloc (.cells #[.int .i64 0] 3)).alloc (.cells #[.slice (some ⟨w.heap.size,0,none⟩) 1 1,.slice (some ⟨w.heap.size+1,0,none⟩) 1 1] 26)) (((w.alloc (.cells #[.int .i64 1] 3)).alloc (.cells #[.int .i64 0] 3)).alloc (.cells #[.slice (some ⟨w.heap.size,0,none⟩) 1 1,.slice (some ⟨w.heap.size+1,0,none⟩) 1 1] 26)).heap.size (.slice (some ⟨w.heap.size+2,0,none⟩) 2 2) [[1],[0]]:=by
 have h:=Xw3 _ ((Row.here (Row.lit1 w 1)).up ((Below.refl _ (w.alloc (.cells #[.int .i64 1] 3))).alloc (le_refl _) (.cells #[.int .i64 0] 3))) (Xk7 w (.cells #[.int .i64 1] 3) 0)
 rwa [show ((w.alloc (.cells #[.int .i64 1] 3)).alloc (.cells #[.int .i64 0] 3)).heap.size=w.heap.size+2 by simp] at h
theorem E8_ (E:Nat→Addr) (w:World) (hE:Env E w):Calls Tryz.prog 10 #[] w (Truly w):=by
 have hb0:Below w.heap.size w ((w.alloc (.cells #[.int .i64 0,.int .i64 2,.int .i64 1,.int .i64 0,.slice none 0 0,.slice none 0 0] 25)).alloc (.cells #[.int .i64 0] 3)):=((Below.refl w.heap.size w).alloc (le_refl _) _).alloc (by simp) _
 have hblk:=(Blk.new w 25 #[.int .i64 0,.int .i64 2,.int .i64 1,.int .i64 0,.slice none 0 0,.slice none 0 0]).below ((Below.refl _ _).alloc (le_refl _) (.cells #[.int .i64 0] 3)) (by simp)
 have hrow:=Xk7 w (.cells #[.int .i64 0,.int .i64 2,.int .i64 1,.int .i64 0,.slice none 0 0,.slice none 0 0] 25) 0
 generalize hX:(w.alloc (.cells #[.int .i64 0,.int .i64 2,.int .i64 1,.int .i64 0,.slice none 0 0,.slice none 0 0] 25)).alloc (.cells #[.int .i64 0] 3)=X at *
 have HX:=hid hX
 have HB0:=hid hb0
 have HR:=hid hrow
 have HE0:=hid (hE.up hb0)
 have HK0:=hid hblk
 clear hE hX hb0 hblk hrow
 go_enter Tryz.func10,Tryz.ntmps10
 go_wp2_with fail
 rw [HX.out]
 refine (cG1 E _ _ HR.out HE0.out).mono ?_
 rintro e w2 ⟨va,vf,vt,rfl,hadj,hf,ht,hb2⟩
 have HA2:=hid hadj
 obtain ⟨Af,cf,rfl⟩:=Zq4 hf
 obtain ⟨At,ct,rfl⟩:=Zq4 ht
 clear hadj hf ht
 have HB2:=hid (Z0_ HB0.out (le_refl _) hb2)
 have HK2:=hid (HK0.out.below hb2 HK0.out.lt)
 have HE2:=hid (HE0.out.up hb2)
 clear hb2
 have n0:=HK2.out.cell 0
 have n1:=HK2.out.cell 1
 have n2:=HK2.out.cell 2
 have n3:=HK2.out.cell 3
 have n4:=HK2.out.cell 4
 have n5:=HK2.out.cell 5
 go_wp2_with fail
 refine (cG2 E _ HE2.out).mono ?_
 rintro e w3 ⟨va3,vx,vy,rfl,_,hx,hy,hb3⟩
 have Hx3:=hid hx
 have Hy3:=hid hy
 clear hx hy n0 n1 n2 n3 n4 n5
 have HB3:=hid (Z0_ HB2.out (le_refl _) hb3)
 have HK3:=hid (HK2.out.below hb3 HK2.out.lt)
 have HE3:=hid (HE2.out.up hb3)
 have HA3:=hid (HA2.out.up hb3)
 clear hb3
 have n0:=HK3.out.cell 0
 have n1:=HK3.out.cell 1
 have n2:=HK3.out.cell 2
 have n3:=HK3.out.cell 3
 have n4:=HK3.out.cell 4
 have n5:=HK3.out.cell 5
 have HL:=hid (Row.here (Row.lit2 w3 0 1))
 have Hbl:Hid (Below w3.heap.size w3 (w3.alloc (.cells #[.int .i64 0,.int .i64 1] 3))):=hid ((Below.refl _ _).alloc (le_refl _) _)
 go_wp2_with fail
 refine (cG3 E _ _ HL.out (HE3.out.up Hbl.out)).mono ?_
 rintro e w4 ⟨va4,vf4,vt4,rfl,_,_,_,hb4⟩
 replace hb4:=Z0_ Hbl.out (le_refl _) hb4
 clear n0 n1 n2 n3 n4 n5 HL Hbl
 have HB4:=hid (Z0_ HB3.out (le_refl _) hb4)
 have HK4:=hid (HK3.out.below hb4 HK3.out.lt)
 have HE4:=hid (HE3.out.up hb4)
 have HA4:=hid (HA3.out.up hb4)
 have Hx4:=hid (Hx3.out.up hb4)
 have Hy4:=hid (Hy3.out.up hb4)
 clear hb4
 have HL:=hid (Xz7 w4)
 have Hbl:Hid (Below w4.heap.size w4 (((w4.alloc (.cells #[.int .i64 1] 3)).alloc (.cells #[.int .i64 0] 3)).alloc (.cells #[.slice (some ⟨w4.heap.size,0,none⟩) 1 1,.slice (some ⟨w4.heap.size+1,0,none⟩) 1 1] 26))):=hid ((((Below.refl _ _).alloc (le_refl _) _).alloc (by simp) _).alloc (by simp;omega) _)
 go_wp2_with fail
 refine (Yi5 _ _ [[1],[0]] _ (HA4.out.up Hbl.out) HL.out (by decide) (by decide)).mono ?_
 rintro e w5 ⟨rfl,hb5⟩
 replace hb5:=Z0_ Hbl.out (le_refl _) hb5
 clear HL Hbl
 have HB5:=hid (Z0_ HB4.out (le_refl _) hb5)
 have HK5:=hid (HK4.out.below hb5 HK4.out.lt)
 have HE5:=hid (HE4.out.up hb5)
 have Hx5:=hid (Hx4.out.up hb5)
 have Hy5:=hid (Hy4.out.up hb5)
 clear hb5
 have HL:=hid (Row.here (Row.lit2 w5 0 1))
 have Hbl:Hid (Below w5.heap.size w5 (w5.alloc (.cells #[.int .i64 0,.int .i64 1] 3))):=hid ((Below.refl _ _).alloc (le_refl _) _)
 go_wp2_with fail
 refine (cS _ _ [0,1] _ (Hx5.out.up Hbl.out) HL.out (by decide)).mono ?_
 rintro e w6 ⟨rfl,hb6⟩
 replace hb6:=Z0_ Hbl.out (le_refl _) hb6
 clear HL Hbl
 have HB6:=hid (Z0_ HB5.out (le_refl _) hb6)
 have HK6:=hid (HK5.out.below hb6 HK5.out.lt)
 have HE6:=hid (HE5.out.up hb6)
 have Hy6:=hid (Hy5.out.up hb6)
 clear hb6
 have HL:=hid (Row.here (Row.lit2 w6 0 1))
 have Hbl:Hid (Below w6.heap.size w6 (w6.alloc (.cells #[.int .i64 0,.int .i64 1] 3))):=hid ((Below.refl _ _).alloc (le_refl _) _)
 go_wp2_with fail
 refine (cS _ _ [0,1] _ (Hy6.out.up Hbl.out) HL.out (by decide)).mono ?_
 rintro e w7 ⟨rfl,hb7⟩
 replace hb7:=Z0_ Hbl.out (le_refl _) hb7
 clear HL Hbl
 have HB7:=hid (Z0_ HB6.out (le_refl _) hb7)
 have HK7:=hid (HK6.out.below hb7 HK6.out.lt)
 have HE7:=hid (HE6.out.up hb7)
 clear hb7
 have n0:=HK7.out.cell 0
 have n1:=HK7.out.cell 1
 have n2:=HK7.out.cell 2
 have n3:=HK7.out.cell 3
 have n4:=HK7.out.cell 4
 have n5:=HK7.out.cell 5
 have HL:=hid (Row.here (Row.lit1 w7 1))
 have Hbl:Hid (Below w7.heap.size w7 (w7.alloc (.cells #[.int .i64 1] 3))):=hid ((Below.refl _ _).alloc (le_refl _) _)
 go_wp2_with fail
 refine (cM1 E _ _ HL.out (HE7.out.up Hbl.out)).mono ?_
 rintro e w8 ⟨rfl,hb8⟩
 replace hb8:=Z0_ Hbl.out (le_refl _) hb8
 clear HL Hbl n0 n1 n2 n3 n4 n5
 have HB8:=hid (Z0_ HB7.out (le_refl _) hb8)
 have HK8:=hid (HK7.out.below hb8 HK7.out.lt)
 have HE8:=hid (HE7.out.up hb8)
 clear hb8
 have n0:=HK8.out.cell 0
 have n1:=HK8.out.cell 1
 have n2:=HK8.out.cell 2
 have n3:=HK8.out.cell 3
 have n4:=HK8.out.cell 4
 have n5:=HK8.out.cell 5
 go_wp2_with fail
 refine (cM2 E _ HE8.out).mono ?_
 rintro e w9 ⟨rfl,hb9⟩
 clear n0 n1 n2 n3 n4 n5
 have HB9:=hid (Z0_ HB8.out (le_refl _) hb9)
 have HK9:=hid (HK8.out.below hb9 HK8.out.lt)
 have HE9:=hid (HE8.out.up hb9)
 clear hb9
 have HL:=hid ((Row.here (Row.lit2 w9 0 2)).up ((Below.refl _ _).alloc (le_refl _) (.cells #[.int .i64 3,.int .i64 2,.int .i64 1] 3)))
 have HL2:=hid (Va9 w9 (.cells #[.int .i64 0,.int .i64 2] 3) 3 2 1)
 have Hbl:Hid (Below w9.heap.size w9 ((w9.alloc (.cells #[.int .i64 0,.int .i64 2] 3)).alloc (.cells #[.int .i64 3,.int .i64 2,.int .i64 1] 3))):=hid (((Below.refl _ _).alloc (le_refl _) _).alloc (by simp) _)
 go_wp2_with fail
 refine (cT1 _ _ _ HL.out HL2.out).mono ?_
 rintro e w10 ⟨vt10,rfl,ht10,hb10⟩
 replace hb10:=Z0_ Hbl.out (le_refl _) hb10
 have HT10:=hid ht10
 clear HL HL2 Hbl ht10
 have HB10:=hid (Z0_ HB9.out (le_refl _) hb10)
 have HK10:=hid (HK9.out.below hb10 HK9.out.lt)
 have HE10:=hid (HE9.out.up hb10)
 clear hb10
 have HL:=hid (Row.here (Row.lit3 w10 0 1 3))
 have Hbl:Hid (Below w10.heap.size w10 (w10.alloc (.cells #[.int .i64 0,.int .i64 1,.int .i64 3] 3))):=hid ((Below.refl _ _).alloc (le_refl _) _)
 go_wp2_with fail
 refine (cS _ _ [0,1,3] _ (HT10.out.up Hbl.out) HL.out (by decide)).mono ?_
 rintro e w11 ⟨rfl,hb11⟩
 replace hb11:=Z0_ Hbl.out (le_refl _) hb11
 clear HL Hbl
 have HB11:=hid (Z0_ HB10.out (le_refl _) hb11)
 have HK11:=hid (HK10.out.below hb11 HK10.out.lt)
 have HE11:=hid (HE10.out.up hb11)
 clear hb11
 have HL:=hid (Row.here (Row.lit2 w11 1 1))
 have Hbl:Hid (Below w11.heap.size w11 (w11.alloc (.cells #[.int .i64 1,.int .i64 1] 3))):=hid ((Below.refl _ _).alloc (le_refl _) _)
 go_wp2_with fail
 refine (cT2 _ _ HL.out).mono ?_
 rintro e w12 ⟨vt12,rfl,ht12,hb12⟩
 replace hb12:=Z0_ Hbl.out (le_refl _) hb12
 obtain ⟨A12,c12,rfl⟩:=Zq4 ht12
 clear HL Hbl ht12
 have HB12:=hid (Z0_ HB11.out (le_refl _) hb12)
 have HK12:=hid (HK11.out.below hb12 HK11.out.lt)
 have HE12:=hid (HE11.out.up hb12)
 clear hb12
 go_wp2
 go_ret
 exact ⟨rfl,HB12.out⟩
end Wp
end Go.Proofs.YtgadbnbhgpehjaaGreatDoor
