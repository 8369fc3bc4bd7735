/- The calls whose answers the document fixes, of what may be exchanged, walked: they are as it fixes them (written by gen_vfix.py). -/
import Derived.Test.YteiejkhdonmcdaaGreatDoorVTurn
import Derived.Test.YteiejkhdonmcdaaGreatDoorZH
import Derived.Test.YteiejkhdonmcdaaGreatDoorX0A
set_option maxHeartbeats 16000000
set_option maxRecDepth 100000
open Go.Lib (hid)
open Nat (le_refl)
namespace Go.Proofs.YteiejkhdonmcdaaGreatDoor
open Go Go.RowKit
namespace Wp
def u2M:Mat:=.mk 0 2 1 0 [] []
def u1M:Mat:=.mk 0 1 1 0 [] []
def indU2 (s:List Int):Bool:=mayI u2M s && decide (min 1 (cnt (memP s) 2)=s.length)
theorem Zg8 (s:List Int):indT u2M s=indU2 s:=by
 unfold indT rankT indU2;cases mayI u2M s
 ·simp
 ·rw [if_pos rfl,rkP_0 rfl]
  show decide (((min 1 (cnt (memP s) 2):Nat):Int)=_)=_;simp;omega
theorem Vs1:adjG u2M u2M [0]=[[1],[0]]:=by
 unfold adjG arcsG M9_;exact y20_
theorem Vs2:addG u2M [0]=[]:=by
 unfold addG;exact y20_
theorem Vs3:addG u2M []=[0,1]:=by
 unfold addG;exact y20_
theorem Vs4:mayS u2M u2M [0,1]=false:=by
 unfold mayS;exact y20_
theorem Vs5:mayS u2M u2M [0]=true:=by
 unfold mayS;exact y20_
theorem Vs6:mayS u2M u2M []=true:=by
 unfold mayS;exact y20_
theorem Vs7:mayS u2M u2M [1]=true:=by
 unfold mayS;exact y20_
theorem Vs8:mayS u2M u1M []=false:=by
 unfold mayS;rw [decide_eq_false x40_];rfl
theorem Vs9:turnL [0,2] [3,2,1]=[0,1,3]:=y40_
theorem Vi8:turnL [] [1,1]=[]:=y40_
theorem P3_ {w:World} {B:Nat} {v:Value} (h:Row w B v []):∃ A c,v=.slice A 0 c:=by
 obtain ⟨A,c,h,_⟩:=h;exact ⟨A,c,h⟩
theorem cG1 (E:Nat→Addr) (c:Value) (W:World) (e:Row W W.heap.size c [0]) (d:Env E W):Calls Tryz.prog 16 #[.agg #[.int .i64 0,.int .i64 2,.int .i64 1,.int .i64 0,.slice none 0 0,.slice none 0 0],.agg #[.int .i64 0,.int .i64 2,.int .i64 1,.int .i64 0,.slice none 0 0,.slice none 0 0],c] W (D5_ W [[1],[0]] [] [] 0):=by
 have h:=H2_ E u2M u2M _ _ c [0] W (B3_ W _ 0 2 1 0) (B3_ W _ 0 2 1 0) (B4_ ..) (B4_ ..) e d (mayS_iff.1 Vs5);rw [Vs1,Vs2] at h;exact h
theorem cG2 (E:Nat→Addr) (W:World) (c:Env E W):Calls Tryz.prog 16 #[.agg #[.int .i64 0,.int .i64 2,.int .i64 1,.int .i64 0,.slice none 0 0,.slice none 0 0],.agg #[.int .i64 0,.int .i64 2,.int .i64 1,.int .i64 0,.slice none 0 0,.slice none 0 0],.slice none 0 0] W (D5_ W (adjG u2M u2M []) [0,1] [0,1] 0):=by
 have h:=H2_ E u2M u2M _ _ (.slice none 0 0) [] W (B3_ W _ 0 2 1 0) (B3_ W _ 0 2 1 0) (B4_ ..) (B4_ ..) (Row.nil_ _ _) c (mayS_iff.1 Vs6);rw [Vs3] at h;exact h
theorem cG3 (E:Nat→Addr) (c:Value) (W:World) (e:Row W W.heap.size c [0,1]) (d:Env E W):Calls Tryz.prog 16 #[.agg #[.int .i64 0,.int .i64 2,.int .i64 1,.int .i64 0,.slice none 0 0,.slice none 0 0],.agg #[.int .i64 0,.int .i64 2,.int .i64 1,.int .i64 0,.slice none 0 0,.slice none 0 0],c] W (D5_ W [] [] [] 1) :=
 Ye1 E u2M u2M _ _ c [0,1] W (B3_ W _ 0 2 1 0) (B3_ W _ 0 2 1 0) (B4_ ..) (B4_ ..) e x40_ d Vs4
theorem cM1 (E:Nat→Addr) (c:Value) (W:World) (e:Row W W.heap.size c [1]) (d:Env E W):Calls Tryz.prog 18 #[.agg #[.int .i64 0,.int .i64 2,.int .i64 1,.int .i64 0,.slice none 0 0,.slice none 0 0],.agg #[.int .i64 0,.int .i64 2,.int .i64 1,.int .i64 0,.slice none 0 0,.slice none 0 0],c] W (Says W true):=by
 rw [← Vs7];exact W4_ E u2M u2M _ _ c [1] W (B3_ W _ 0 2 1 0) (B3_ W _ 0 2 1 0) (B4_ ..) (B4_ ..) e x40_ d
theorem cM2 (E:Nat→Addr) (W:World) (c:Env E W):Calls Tryz.prog 18 #[.agg #[.int .i64 0,.int .i64 2,.int .i64 1,.int .i64 0,.slice none 0 0,.slice none 0 0],.agg #[.int .i64 0,.int .i64 1,.int .i64 1,.int .i64 0,.slice none 0 0,.slice none 0 0],.slice none 0 0] W (Says W false):=by
 rw [← Vs8];exact W4_ E u2M u1M _ _ (.slice none 0 0) [] W (B3_ W _ 0 2 1 0) (B3_ W _ 0 1 1 0) (B4_ ..) (B4_ ..) (Row.nil_ _ _) x40_ c
theorem cT1 (u v:Value) (W:World) (c:Row W W.heap.size u [0,2]) (d:Row W W.heap.size v [3,2,1]):Calls Tryz.prog 22 #[u,v] W (Gives W [0,1,3]):=by
 rw [← Vs9];exact K9_ u v _ _ W c d x40_ x40_
theorem cT2 (v:Value) (W:World) (c:Row W W.heap.size v [1,1]):Calls Tryz.prog 22 #[.slice none 0 0,v] W (Gives W []):=by
 rw [← Vi8];exact K9_ _ v _ _ W (Row.nil_ _ _) c x40_ x40_
theorem cS (u v:Value) (l:List Int) (W:World) (c:Row W W.heap.size u l) (d:Row W W.heap.size v l) (hl:l.length≤1000):Calls Tryz.prog 21 #[u,v] W (Says W true) :=
 Vg4 u v l l W c d q39_ q39_ (by unfold sameB;simp)
theorem Vq0 (w:World) (o:Obj) (x:Int):Row ((w.alloc o).alloc (.cells #[.int .i64 x] 3)) ((w.alloc o).alloc (.cells #[.int .i64 x] 3)).heap.size (.slice (some ⟨w.heap.size+1,0,none⟩) 1 1) [x]:=by
 have h:=Row.here (Row.lit1 (w.alloc o) x)
 rwa [show (w.alloc o).heap.size=w.heap.size+1 by simp] at h
theorem Vt0 (w:World) (o:Obj) (x y z:Int):Row ((w.alloc o).alloc (.cells #[.int .i64 x,.int .i64 y,.int .i64 z] 3)) ((w.alloc o).alloc (.cells #[.int .i64 x,.int .i64 y,.int .i64 z] 3)).heap.size (.slice (some ⟨w.heap.size+1,0,none⟩) 3 3) [x,y,z]:=by
 have h:=Row.here (Row.lit3 (w.alloc o) x y z)
 rwa [show (w.alloc o).heap.size=w.heap.size+1 by simp] at h
theorem Vi9 (W:World) {c d:Value} {a b:List Int} (ha:Row W W.heap.size c a) (hb:Row W W.heap.size d b):Rows2 (W.alloc (.cells #[c,d] 26)) (W.alloc (.cells #[c,d] 26)).heap.size (.slice (some ⟨W.heap.size,0,none⟩) 2 2) [a,b]:=by
 have hB:=Blk.new W 26 #[c,d];refine ⟨_,2,rfl,⟨le_refl _,x40_,fun h=>k47_⟩,fun k e=>?_⟩
 match k,e with
 | 0,_=>exact ⟨⟨W.heap.size,0,none⟩,c,rfl,j39_,hB.cell 0,ha.upA _⟩
 | 1,_=>exact ⟨⟨W.heap.size,0,none⟩,d,rfl,j39_,hB.cell 1,hb.upA _⟩
theorem Xk0 (w:World):Rows2 (((w.alloc (.cells #[.int .i64 1] 3)).alloc (.cells #[.int .i64 0] 3)).alloc (.cells #[.slice (some ⟨w.heap.size,0,none⟩) 1 1,.slice (some ⟨w.heap.size+1,0,none⟩) 1 1] 26)) (((w.alloc (.cells #[.int .i64 1] 3)).alloc (.cells #[.int .i64 0] 3)).alloc (.cells #[.slice (some ⟨w.heap.size,0,none⟩) 1 1,.slice (some ⟨w.heap.size+1,0,none⟩) 1 1] 26)).heap.size (.slice (some ⟨w.heap.size+2,0,none⟩) 2 2) [[1],[0]]:=by
 have h:=Vi9 _ ((Row.here (Row.lit1 w 1)).up ((Below.refl _ (w.alloc (.cells #[.int .i64 1] 3))).alloc (le_refl _) (.cells #[.int .i64 0] 3))) (Vq0 w (.cells #[.int .i64 1] 3) 0)
 rwa [show ((w.alloc (.cells #[.int .i64 1] 3)).alloc (.cells #[.int .i64 0] 3)).heap.size=w.heap.size+2 by simp] at h
theorem Y0_ (E:Nat→Addr) (w:World) (hE:Env E w):Calls Tryz.prog 15 #[] w (Truly w):=by
 have Q:Below w.heap.size w ((w.alloc (.cells #[.int .i64 0,.int .i64 2,.int .i64 1,.int .i64 0,.slice none 0 0,.slice none 0 0] 25)).alloc (.cells #[.int .i64 0] 3)):=((Below.refl w.heap.size w).alloc (le_refl _) _).alloc j39_ _;have x6:=(Blk.new w 25 #[.int .i64 0,.int .i64 2,.int .i64 1,.int .i64 0,.slice none 0 0,.slice none 0 0]).below ((Below.refl _ _).alloc (le_refl _) (.cells #[.int .i64 0] 3)) j39_;have x7:=Vq0 w (.cells #[.int .i64 0,.int .i64 2,.int .i64 1,.int .i64 0,.slice none 0 0,.slice none 0 0] 25) 0;generalize hX:(w.alloc (.cells #[.int .i64 0,.int .i64 2,.int .i64 1,.int .i64 0,.slice none 0 0,.slice none 0 0] 25)).alloc (.cells #[.int .i64 0] 3)=X at *
 have HX:=hid hX;have xd:=hid Q;have HR:=hid x7;have R:=hid (hE.up Q);have W:=hid x6;clear hE hX Q x6 x7
 go_enter Tryz.func15,Tryz.ntmps15
 go_wp2_with fail
 rw [HX.out];refine (cG1 E _ _ HR.out R.out).mono ?_;rintro e w2 ⟨va,vf,vt,rfl,x5,hf,ht,I⟩;have xa:=hid x5;obtain ⟨Af,cf,rfl⟩:=P3_ hf;obtain ⟨At,ct,rfl⟩:=P3_ ht;clear x5 hf ht;have xh:=hid (Z0_ xd.out (le_refl _) I);have h:=hid (W.out.below I W.out.lt);have S:=hid (R.out.up I);clear I;have q:=h.out.cell 0;have r:=h.out.cell 1;have s:=h.out.cell 2;have u:=h.out.cell 3;have v:=h.out.cell 4;have x:=h.out.cell 5
 go_wp2_with fail
 refine (cG2 E _ S.out).mono ?_;rintro e M ⟨y7,vx,vy,rfl,_,hx,hy,G⟩;have xw:=hid hx;have xz:=hid hy;clear hx hy q r s u v x;have xi:=hid (Z0_ xh.out (le_refl _) G);have j:=hid (h.out.below G h.out.lt);have T:=hid (S.out.up G);have xb:=hid (xa.out.up G);clear G;have q:=j.out.cell 0;have r:=j.out.cell 1;have s:=j.out.cell 2;have u:=j.out.cell 3;have v:=j.out.cell 4;have x:=j.out.cell 5;have d:=hid (Row.here (Row.lit2 M 0 1));have c:Hid (Below M.heap.size M (M.alloc (.cells #[.int .i64 0,.int .i64 1] 3))):=hid ((Below.refl _ _).alloc (le_refl _) _)
 go_wp2_with fail
 refine (cG3 E _ _ d.out (T.out.up c.out)).mono ?_;rintro e F ⟨y8,y9,yc,rfl,_,_,_,g⟩;replace g:=Z0_ c.out (le_refl _) g;clear q r s u v x d c;have xj:=hid (Z0_ xi.out (le_refl _) g);have x0:=hid (j.out.below g j.out.lt);have xr:=hid (T.out.up g);have xc:=hid (xb.out.up g);have xx:=hid (xw.out.up g);have y0:=hid (xz.out.up g);clear g;have d:=hid (Xk0 F);have c:Hid (Below F.heap.size F (((F.alloc (.cells #[.int .i64 1] 3)).alloc (.cells #[.int .i64 0] 3)).alloc (.cells #[.slice (some ⟨F.heap.size,0,none⟩) 1 1,.slice (some ⟨F.heap.size+1,0,none⟩) 1 1] 26))):=hid ((((Below.refl _ _).alloc (le_refl _) _).alloc j39_ _).alloc k39_ _)
 go_wp2_with fail
 refine (Xy3 _ _ [[1],[0]] _ (xc.out.up c.out) d.out x40_ x40_).mono ?_;rintro e N ⟨rfl,o⟩;replace o:=Z0_ c.out (le_refl _) o;clear d c;have xk:=hid (Z0_ xj.out (le_refl _) o);have x1:=hid (x0.out.below o x0.out.lt);have xs:=hid (xr.out.up o);have xy:=hid (xx.out.up o);have y1:=hid (y0.out.up o);clear o;have d:=hid (Row.here (Row.lit2 N 0 1));have c:Hid (Below N.heap.size N (N.alloc (.cells #[.int .i64 0,.int .i64 1] 3))):=hid ((Below.refl _ _).alloc (le_refl _) _)
 go_wp2_with fail
 refine (cS _ _ [0,1] _ (xy.out.up c.out) d.out x40_).mono ?_;rintro e O ⟨rfl,p⟩;replace p:=Z0_ c.out (le_refl _) p;clear d c;have xl:=hid (Z0_ xk.out (le_refl _) p);have x2:=hid (x1.out.below p x1.out.lt);have xt:=hid (xs.out.up p);have y2:=hid (y1.out.up p);clear p;have d:=hid (Row.here (Row.lit2 O 0 1));have c:Hid (Below O.heap.size O (O.alloc (.cells #[.int .i64 0,.int .i64 1] 3))):=hid ((Below.refl _ _).alloc (le_refl _) _)
 go_wp2_with fail
 refine (cS _ _ [0,1] _ (y2.out.up c.out) d.out x40_).mono ?_;rintro e P ⟨rfl,C⟩;replace C:=Z0_ c.out (le_refl _) C;clear d c;have xm:=hid (Z0_ xl.out (le_refl _) C);have k:=hid (x2.out.below C x2.out.lt);have U:=hid (xt.out.up C);clear C;have q:=k.out.cell 0;have r:=k.out.cell 1;have s:=k.out.cell 2;have u:=k.out.cell 3;have v:=k.out.cell 4;have x:=k.out.cell 5;have d:=hid (Row.here (Row.lit1 P 1));have c:Hid (Below P.heap.size P (P.alloc (.cells #[.int .i64 1] 3))):=hid ((Below.refl _ _).alloc (le_refl _) _)
 go_wp2_with fail
 refine (cM1 E _ _ d.out (U.out.up c.out)).mono ?_;rintro e w8 ⟨rfl,D⟩;replace D:=Z0_ c.out (le_refl _) D;clear d c q r s u v x;have xn:=hid (Z0_ xm.out (le_refl _) D);have m:=hid (k.out.below D k.out.lt);have V:=hid (U.out.up D);clear D;have q:=m.out.cell 0;have r:=m.out.cell 1;have s:=m.out.cell 2;have u:=m.out.cell 3;have v:=m.out.cell 4;have x:=m.out.cell 5
 go_wp2_with fail
 refine (cM2 E _ V.out).mono ?_;rintro e H ⟨rfl,J⟩;clear q r s u v x;have xo:=hid (Z0_ xn.out (le_refl _) J);have x3:=hid (m.out.below J m.out.lt);have xu:=hid (V.out.up J);clear J;have d:=hid ((Row.here (Row.lit2 H 0 2)).up ((Below.refl _ _).alloc (le_refl _) (.cells #[.int .i64 3,.int .i64 2,.int .i64 1] 3)));have x4:=hid (Vt0 H (.cells #[.int .i64 0,.int .i64 2] 3) 3 2 1);have c:Hid (Below H.heap.size H ((H.alloc (.cells #[.int .i64 0,.int .i64 2] 3)).alloc (.cells #[.int .i64 3,.int .i64 2,.int .i64 1] 3))):=hid (((Below.refl _ _).alloc (le_refl _) _).alloc j39_ _)
 go_wp2_with fail
 refine (cT1 _ _ _ d.out x4.out).mono ?_;rintro e K ⟨ya,rfl,x8,y⟩;replace y:=Z0_ c.out (le_refl _) y;have xv:=hid x8;clear d x4 c x8;have xe:=hid (Z0_ xo.out (le_refl _) y);have Y:=hid (x3.out.below y x3.out.lt);have xp:=hid (xu.out.up y);clear y;have d:=hid (Row.here (Row.lit3 K 0 1 3));have c:Hid (Below K.heap.size K (K.alloc (.cells #[.int .i64 0,.int .i64 1,.int .i64 3] 3))):=hid ((Below.refl _ _).alloc (le_refl _) _)
 go_wp2_with fail
 refine (cS _ _ [0,1,3] _ (xv.out.up c.out) d.out x40_).mono ?_;rintro e L ⟨rfl,z⟩;replace z:=Z0_ c.out (le_refl _) z;clear d c;have xf:=hid (Z0_ xe.out (le_refl _) z);have Z:=hid (Y.out.below z Y.out.lt);have xq:=hid (xp.out.up z);clear z;have d:=hid (Row.here (Row.lit2 L 1 1));have c:Hid (Below L.heap.size L (L.alloc (.cells #[.int .i64 1,.int .i64 1] 3))):=hid ((Below.refl _ _).alloc (le_refl _) _)
 go_wp2_with fail
 refine (cT2 _ _ d.out).mono ?_;rintro e yd ⟨yb,rfl,x9,B⟩;replace B:=Z0_ c.out (le_refl _) B;obtain ⟨y3,y6,rfl⟩:=P3_ x9;clear d c x9;have xg:=hid (Z0_ xf.out (le_refl _) B);have y5:=hid (Z.out.below B Z.out.lt);have y4:=hid (xq.out.up B);clear B;go_wp2;go_ret;exact ⟨rfl,xg.out⟩
end Wp
end Go.Proofs.YteiejkhdonmcdaaGreatDoor
