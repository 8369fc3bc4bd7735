/- The program's May, Rank and Indep, and the document's May, walked. Matroids written out in memory. The answers that the document fixes of what is independent, reckoned. The law's triangle, walked. The calls whose answers the document fixes, of what is independent, walked: they are as it fixes them. -/
import Derived.Test.YteiejkhdonmcdaaGreatDoorZW
import Derived.Test.YteiejkhdonmcdaaGreatDoorZT
import Derived.Test.YteiejkhdonmcdaaGreatDoorQImg
import Derived.Test.YteiejkhdonmcdaaGreatDoorZA
import Derived.Test.YteiejkhdonmcdaaGreatDoorX0A
import Derived.Test.YteiejkhdonmcdaaGreatDoorX0B
set_option maxHeartbeats 4000000
set_option maxRecDepth 100000
open Go.Lib (hid)
open Nat (le_refl)
namespace Go.Proofs.YteiejkhdonmcdaaGreatDoor
open Go.RowKit
namespace Wp
def mayI (m:Mat) (s:List Int):Bool:=decide (chk m=0) && subB s (allL m.n)
noncomputable def rankT (m:Mat) (s:List Int):Int:=if mayI m s=true then (rkP 4 m (memP s):Nat) else -1
noncomputable def indT (m:Mat) (s:List Int):Bool:=decide (rankT m s=(s.length:Int))
theorem mayI_iff {m:Mat} {s:List Int}:mayI m s=true↔chk m=0∧InN (nN m) s:=by
 unfold mayI;rw [Bool.and_eq_true,decide_eq_true_iff];constructor
 ·rintro ⟨c,d⟩;exact ⟨c,(S2_ (chk_n c).1 (chk_n c).2).1 d⟩
 ·rintro ⟨c,d⟩;exact ⟨c,(S2_ (chk_n c).1 (chk_n c).2).2 d⟩
theorem Xw1 (m:Mat) (s:List Int):mayI m s=(decide (chk m=0) && okA m.n s):=by
 unfold mayI;by_cases h:chk m=0
 ·rw [Zy2 (chk_n h).1 (chk_n h).2]
 ·rw [decide_eq_false h];rfl
theorem Yl4 (E:Nat→Addr) (m:Mat) (v z:Value) (s:List Int) (w:World) (k:MatV w w.heap.size v m) (hs:Sml m) (j:Row w w.heap.size z s) (I:s.length≤1048576) (r:Env E w):Calls Tryz.prog 69 #[v,z] w (Says w (mayI m s)):=by
 have p:=hid hs;obtain ⟨y,x,J,_,_⟩:=k.open;obtain ⟨L,cs,rfl,_⟩:=id j;have Hb0:=hid (Z1_ w m y x);have q:=hid (k.up Hb0.out);have B:=hid (j.up Hb0.out);have c:=hid (Z3_ w m y x);have g0:=c.out.cell 0;have g1:=c.out.cell 1;have g2:=c.out.cell 2;have g3:=c.out.cell 3;have g4:=c.out.cell 4;have g5:=c.out.cell 5;subst J;unfold boxed at *
 have o:=hid (r.up Hb0.out);obtain ⟨D,d⟩:∃ D,chk m=D:=⟨_,rfl⟩;have HD:=hid d;have H:=E4_ m.n;unfold mayI;rw [d];clear k hs j r d;by_cases h:D=0
 ·subst h
  rw [decide_eq_true rfl,Bool.true_and]
  go_enter Tryz.func69,Tryz.ntmps69
  go_wp2_with fail
  refine (F2_ E m _ _ q.out p.out o.out).mono ?_;rintro e w1 ⟨rfl,hb1⟩;rw [HD.out];have Hb1:=hid (Z0_ Hb0.out (le_refl _) hb1);have C:=hid (B.out.up hb1);have K:=(c.out.below hb1 c.out.lt).cell 1;clear hb1 g0 g1 g2 g3 g4 g5
  go_wp2_with fail
  refine (L3_ m.n _).mono ?_;rintro e O ⟨N,rfl,u,g⟩;have Hb2:=hid (Z0_ Hb1.out (le_refl _) g);have F:=hid (C.out.up g);have G:=hid u;clear g u K
  go_wp2_with fail
  refine (Zz1 _ _ s (allL m.n) _ F.out G.out I H).mono ?_;exact k5_
 ·rw [decide_eq_false h,Bool.false_and]
  have M:(D==0)=false:=z43_;clear h
  go_enter Tryz.func69,Tryz.ntmps69
  go_wp2_with fail
  refine (F2_ E m _ _ q.out p.out o.out).mono ?_;exact z38_
theorem P9_ (m:Mat) (v u:Value) (s:List Int) (w:World) (j:MatV w w.heap.size v m) (hs:Sml m) (g:Row w w.heap.size u s):Calls Tryz.prog 60 #[v,u] w (Says w (mayI m s)):=by
 have k:=hid hs;obtain ⟨r,q,z,_,_⟩:=j.open;obtain ⟨C,cs,rfl,_⟩:=id g;have Hb0:=hid (Z1_ w m r q);have o:=hid (j.up Hb0.out);have x:=hid (g.up Hb0.out);have c:=hid (Z3_ w m r q);have g0:=c.out.cell 0;have g1:=c.out.cell 1;have g2:=c.out.cell 2;have g3:=c.out.cell 3;have g4:=c.out.cell 4;have g5:=c.out.cell 5;subst z;unfold boxed at *
 obtain ⟨D,d⟩:∃ D,chk m=D:=⟨_,rfl⟩;have HD:=hid d;rw [Xw1,d];clear j hs g d;by_cases h:D=0
 ·subst h
  rw [decide_eq_true rfl,Bool.true_and]
  go_enter Tryz.func60,Tryz.ntmps60
  go_wp2_with fail
  refine (C3_ m _ _ o.out k.out).mono ?_;rintro e w1 ⟨rfl,hb1⟩;rw [HD.out];have Hb1:=hid (Z0_ Hb0.out (le_refl _) hb1);have y:=hid (x.out.up hb1);have B:=(c.out.below hb1 c.out.lt).cell 1;clear hb1 g0 g1 g2 g3 g4 g5
  go_wp2_with fail
  refine (I5_ _ s m.n _ y.out).mono ?_;rintro e F ⟨rfl,p⟩;have Hb2:=hid (Z0_ Hb1.out (le_refl _) p);clear p B;exact y3_
 ·rw [decide_eq_false h,Bool.false_and]
  have E:(D==0)=false:=z43_;clear h
  go_enter Tryz.func60,Tryz.ntmps60
  go_wp2_with fail
  refine (C3_ m _ _ o.out k.out).mono ?_;exact z38_
theorem Xe8 (E:Nat→Addr) (m:Mat) (v d:Value) (s:List Int) (w:World) (j:MatV w w.heap.size v m) (hs:Sml m) (h:Row w w.heap.size d s) (z:s.length≤1048576) (x:Env E w):Calls Tryz.prog 70 #[v,d] w (Tells w (rankT m s)):=by
 have r:=hid hs;obtain ⟨C,B,K,_,_⟩:=j.open;obtain ⟨M,cs,rfl,_⟩:=id h;have Hb0:=hid (Z1_ w m C B);have u:=hid (j.up Hb0.out);have q:=hid (h.up Hb0.out);have c:=hid (Z3_ w m C B);have g0:=c.out.cell 0;have g1:=c.out.cell 1;have g2:=c.out.cell 2;have g3:=c.out.cell 3;have g4:=c.out.cell 4;have g5:=c.out.cell 5;subst K;unfold boxed at *
 have k:=hid (x.up Hb0.out);unfold rankT;rcases hm:mayI m s with _ | _
 ·rw [if_neg x40_]
  have p:=hid hm;clear j hs h x hm
  go_enter Tryz.func70,Tryz.ntmps70
  go_wp2_with fail
  refine (Yl4 E m _ _ s _ u.out r.out q.out z k.out).mono ?_;rintro e L ⟨rfl,hb1⟩;rw [p.out];exact y31_
 ·rw [if_pos rfl]
  have p:=hid hm;have o:=hid (mayI_iff.1 hm);obtain ⟨R,y⟩:∃ R:Nat,rkP 4 m (memP s)=R:=⟨_,rfl⟩;have G:Hid (∀ (v d:Value) (W:World),MatV W W.heap.size v m→Row W W.heap.size d s→Env E W→Calls Tryz.prog 94 #[v,d] W (Tells W (R:Int))):=hid fun v d W I J h3=>by rw [← y];exact Yl1 E 4 m v d s W I r.out o.out.1 (chk_ok.1 o.out.1).1 J o.out.2 h3
  rw [y];clear j hs h x hm y
  go_enter Tryz.func70,Tryz.ntmps70
  go_wp2_with fail
  refine (Yl4 E m _ _ s _ u.out r.out q.out z k.out).mono ?_;rintro e L ⟨rfl,hb1⟩;rw [p.out];have Hb1:=hid (Z0_ Hb0.out (le_refl _) hb1);have F:=hid (q.out.up hb1);have H:=hid (u.out.up hb1);have D:=hid (k.out.up hb1);have g:=hid (c.out.below hb1 c.out.lt);clear hb1 g0 g1 g2 g3 g4 g5;have g0:=g.out.cell 0;have g1:=g.out.cell 1;have g2:=g.out.cell 2;have g3:=g.out.cell 3;have g4:=g.out.cell 4;have g5:=g.out.cell 5
  go_wp2_with fail
  refine (G.out _ _ _ H.out F.out D.out).mono ?_;rintro e N ⟨rfl,hb2⟩;exact q34_
theorem Ze9 (E:Nat→Addr) (m:Mat) (v x:Value) (s:List Int) (w:World) (o:MatV w w.heap.size v m) (hs:Sml m) (k:Row w w.heap.size x s) (N:s.length≤1048576) (p:Env E w):Calls Tryz.prog 53 #[v,x] w (Says w (indT m s)):=by
 have D:=hid hs;obtain ⟨u,r,O,_,_⟩:=o.open;obtain ⟨P,cs,rfl,_⟩:=id k;have d:=hid (Z1_ w m u r);have F:=hid (o.up d.out);have C:=hid (k.up d.out);have c:=hid (Z3_ w m u r);have G:=c.out.cell 0;have H:=c.out.cell 1;have I:=c.out.cell 2;have J:=c.out.cell 3;have K:=c.out.cell 4;have L:=c.out.cell 5;subst O;unfold boxed at *
 have y:=hid (p.up d.out);obtain ⟨R,h⟩:∃ R,rankT m s=R:=⟨_,rfl⟩;have z:=hid h;obtain ⟨g,j⟩:∃ g,indT m s=g:=⟨_,rfl⟩;have M:(R==(s.length:Int))=g:=by rw [← j,← h];unfold indT;rw [Bool.eq_iff_iff,beq_iff_eq,decide_eq_true_iff]
 rw [j];clear o hs k p h j
 go_enter Tryz.func53,Tryz.ntmps53
 go_wp2_with fail
 refine (Xe8 E m _ _ s _ F.out D.out C.out N y.out).mono ?_;rintro e Q ⟨rfl,q⟩;rw [z.out];have B:=hid (Z0_ d.out (le_refl _) q);clear q G H I J K L;go_wp2;go_ret;exact ⟨by rw [← M];rfl,B.out⟩
open Go.RowKit
theorem Xe9 {W d:World} {c c1 c2 c3 c4 c5:Value} {m:Mat} (hb:Blk d W.heap.size 25 #[c,c1,c2,c3,c4,c5]) (h:MatV d (W.heap.size+1) (.agg #[c,c1,c2,c3,c4,c5]) m) :
  MatL d (W.heap.size+1) (.slice (some ⟨W.heap.size,0,none⟩) 1 1) [m]:=by
 refine ⟨_,1,rfl,⟨le_refl _,x40_,fun e=>by cases e⟩,fun k f=>⟨⟨W.heap.size,0,none⟩,.agg #[c,c1,c2,c3,c4,c5],rfl,by show W.heap.size<_;omega,?_,?_⟩⟩
 ·match k,f with
  | 0,_=>exact ⟨c,c1,c2,c3,c4,c5,rfl,hb.cell 0,hb.cell 1,hb.cell 2,hb.cell 3,hb.cell 4,hb.cell 5⟩
 ·match k,f with
  | 0,_=>exact h
theorem Yl5 {W:World} {c c1 c2 c3 c4 c5:Value} {m:Mat} (h:MatV W W.heap.size (.agg #[c,c1,c2,c3,c4,c5]) m) :
  MatL (W.alloc (.cells #[c,c1,c2,c3,c4,c5] 25)) (W.heap.size+1) (.slice (some ⟨W.heap.size,0,none⟩) 1 1) [m] :=
 Xe9 (Blk.new W _ _) ((h.bel ((Below.refl _ W).alloc (le_refl _) _)).mono q39_)
theorem Zf0 (W:World) (B:Nat):Rows2 W B (.slice none 0 0) []:=⟨none,0,rfl,⟨le_refl _,x40_,fun _=>rfl⟩,fun k c=>absurd c j39_⟩
theorem B3_ (W:World) (B:Nat) (t n a b:Int):MatV W B (.agg #[.int .i64 t,.int .i64 n,.int .i64 a,.int .i64 b,.slice none 0 0,.slice none 0 0]) (.mk t n a b [] []):=MatV.shut (Zf0 W B) (MatL.nil_ W B)
def uM:Mat:=.mk 0 3 2 0 [] []
def rM:Mat:=.mk 5 2 0 0 [[0,2]] [uM]
def cM:Mat:=.mk 6 2 0 0 [[1]] [uM]
def dN:Nat→Mat
 | 0=>uM
 | k+1=>.mk 8 3 0 0 [] [dN k]
def Off (g:Nat) (w w':World):Prop:=w.heap.size≤w'.heap.size∧∀ b,b<w.heap.size→b≠g→w'.heap[b]?=w.heap[b]?
theorem Off.refl (g:Nat) (w:World):Off g w w:=⟨le_refl _,fun _ _ _=>rfl⟩
theorem Off.trans {g:Nat} {a b c:World} (h:Off g a b) (k:Off g b c):Off g a c:=⟨Nat.le_trans h.1 k.1,fun i e d=>(k.2 i (Nat.lt_of_lt_of_le e h.1) d).trans (h.2 i e d)⟩
theorem Off.alloc (g:Nat) (w:World) (o:Obj):Off g w (w.alloc o):=⟨j39_,fun b hb _=>Below.heap_alloc w o b hb⟩
theorem Off.set_ {g:Nat} (w:World) (i:Nat) (v:Value):Off g w (w.setCell ⟨g,i,none⟩ v):=⟨by simp [World.setCell],fun b _ c=>Below.heap_setCell w ⟨g,i,none⟩ v b (by intro e;exact c e)⟩
theorem Off.below {g B:Nat} {a b w:World} (e:B≤g) (h:Below B a b) (hs:B≤b.heap.size) (k:Off g b w) (c:w.os=b.os∧w.tape=b.tape∧w.output=b.output):Below B a w :=
 ⟨c.1.trans h.os,c.2.1.trans h.tape,c.2.2.trans h.output,Nat.le_trans h.size k.1,fun i d=>(k.2 i q39_ q39_).trans (h.block i d)⟩
def MatK (g:Nat) (w:World) (v:Value) (m:Mat):Prop:=∀ W,Off g w W→MatV W w.heap.size v m
theorem MatK.off {g:Nat} {w w':World} {v:Value} {m:Mat} (h:MatK g w v m) (d:Off g w w') (hs:w'.heap.size=w.heap.size):MatK g w' v m:=fun W c=>by
 rw [hs];exact h W (d.trans c)
theorem B4_ (t n a b:Int):Sml (.mk t n a b [] []):=.mk j39_ j39_ j39_ j39_
end Wp
end Go.Proofs.YteiejkhdonmcdaaGreatDoor
namespace Go.Proofs.YteiejkhdonmcdaaGreatDoor.Wp
open Go Go.RowKit
def triM:Mat:=.mk 1 3 3 0 [[0,1],[1,2],[2,0]] []
def dualM:Mat:=.mk 8 3 0 0 [] [triM]
def contM:Mat:=.mk 6 2 0 0 [[0]] [triM]
def unifM:Mat:=.mk 0 3 2 0 [] []
end Go.Proofs.YteiejkhdonmcdaaGreatDoor.Wp
namespace Go.Proofs.YteiejkhdonmcdaaGreatDoor
open Go.RowKit
namespace Wp
def Tri (w:World) (e:Ending) (w':World):Prop:=∃ l,e=.returned (.agg #[.int .i64 1,.int .i64 3,.int .i64 3,.int .i64 0,l,.slice none 0 0])∧MatV w' w'.heap.size (.agg #[.int .i64 1,.int .i64 3,.int .i64 3,.int .i64 0,l,.slice none 0 0]) triM∧Below w.heap.size w w'∧∃ A n c,l=.slice A n c
open Go.RowKit
end Wp
end Go.Proofs.YteiejkhdonmcdaaGreatDoor
