/- The program's May, Rank and Indep, and the document's May, walked. Matroids written out in memory. The answers that the document fixes of what is independent, reckoned. The law's triangle, walked. The calls whose answers the document fixes, of what is independent, walked: they are as it fixes them. -/
import Derived.Test.YteiejkhdonmcdaaGreatDoorZW
import Derived.Test.YteiejkhdonmcdaaGreatDoorZT
import Derived.Test.YteiejkhdonmcdaaGreatDoorQImg
import Derived.Test.YteiejkhdonmcdaaGreatDoorZA
import Derived.Test.YteiejkhdonmcdaaGreatDoorX0A
import Derived.Test.YteiejkhdonmcdaaGreatDoorX0B
set_option maxHeartbeats 4000000
set_option maxRecDepth 100000
open Go.Lib (hid)
open Nat (le_refl)
namespace Go.Proofs.YteiejkhdonmcdaaGreatDoor
open Go.RowKit
namespace Wp
def mayI (m:Mat) (s:List Int):Bool:=decide (chk m=0) && subB s (allL m.n)
noncomputable def rankT (m:Mat) (s:List Int):Int:=if mayI m s=true then (rkP 4 m (memP s):Nat) else -1
noncomputable def indT (m:Mat) (s:List Int):Bool:=decide (rankT m s=(s.length:Int))
theorem mayI_iff {m:Mat} {s:List Int}:mayI m s=true↔chk m=0∧InN (nN m) s:=by
 unfold mayI;rw [Bool.and_eq_true,decide_eq_true_iff];constructor
 ·rintro ⟨c,d⟩;exact ⟨c,(R8_ (chk_n c).1 (chk_n c).2).1 d⟩
 ·rintro ⟨c,d⟩;exact ⟨c,(R8_ (chk_n c).1 (chk_n c).2).2 d⟩
theorem Yi6 (m:Mat) (s:List Int):mayI m s=(decide (chk m=0) && okA m.n s):=by
 unfold mayI;by_cases h:chk m=0
 ·rw [Zy0 (chk_n h).1 (chk_n h).2]
 ·rw [decide_eq_false h];rfl
theorem Zj8 (E:Nat→Addr) (m:Mat) (v z:Value) (s:List Int) (w:World) (k:MatV w w.heap.size v m) (hs:Sml m) (j:Row w w.heap.size z s) (I:s.length≤1048576) (r:Env E w):Calls Tryz.prog 69 #[v,z] w (Says w (mayI m s)):=by
 have p:=hid hs;obtain ⟨y,x,J,_,_⟩:=k.open;obtain ⟨L,cs,rfl,_⟩:=id j;have Hb0:=hid (Z1_ w m y x);have q:=hid (k.up Hb0.out);have B:=hid (j.up Hb0.out);have c:=hid (Z3_ w m y x);have g0:=c.out.cell 0;have g1:=c.out.cell 1;have g2:=c.out.cell 2;have g3:=c.out.cell 3;have g4:=c.out.cell 4;have g5:=c.out.cell 5;subst J;unfold boxed at *
 have o:=hid (r.up Hb0.out);obtain ⟨D,d⟩:∃ D,chk m=D:=⟨_,rfl⟩;have HD:=hid d;have H:=B6_ m.n;unfold mayI;rw [d];clear k hs j r d;by_cases h:D=0
 ·subst h
  rw [decide_eq_true rfl,Bool.true_and]
  go_enter Tryz.func69,Tryz.ntmps69
  go_wp2_with fail
  refine (B3_ E m _ _ q.out p.out o.out).mono ?_;rintro e w1 ⟨rfl,hb1⟩;rw [HD.out];have Hb1:=hid (Z0_ Hb0.out (le_refl _) hb1);have C:=hid (B.out.up hb1);have K:=(c.out.below hb1 c.out.lt).cell 1;clear hb1 g0 g1 g2 g3 g4 g5
  go_wp2_with fail
  refine (I5_ m.n _).mono ?_;rintro e O ⟨N,rfl,u,g⟩;have Hb2:=hid (Z0_ Hb1.out (le_refl _) g);have F:=hid (C.out.up g);have G:=hid u;clear g u K
  go_wp2_with fail
  refine (W8_ _ _ s (allL m.n) _ F.out G.out I H).mono ?_;exact y5_
 ·rw [decide_eq_false h,Bool.false_and]
  have M:(D==0)=false:=k39_;clear h
  go_enter Tryz.func69,Tryz.ntmps69
  go_wp2_with fail
  refine (B3_ E m _ _ q.out p.out o.out).mono ?_;exact y35_
theorem P1_ (m:Mat) (v u:Value) (s:List Int) (w:World) (j:MatV w w.heap.size v m) (hs:Sml m) (g:Row w w.heap.size u s):Calls Tryz.prog 60 #[v,u] w (Says w (mayI m s)):=by
 have k:=hid hs;obtain ⟨r,q,z,_,_⟩:=j.open;obtain ⟨C,cs,rfl,_⟩:=id g;have Hb0:=hid (Z1_ w m r q);have o:=hid (j.up Hb0.out);have x:=hid (g.up Hb0.out);have c:=hid (Z3_ w m r q);have g0:=c.out.cell 0;have g1:=c.out.cell 1;have g2:=c.out.cell 2;have g3:=c.out.cell 3;have g4:=c.out.cell 4;have g5:=c.out.cell 5;subst z;unfold boxed at *
 obtain ⟨D,d⟩:∃ D,chk m=D:=⟨_,rfl⟩;have HD:=hid d;rw [Yi6,d];clear j hs g d;by_cases h:D=0
 ·subst h
  rw [decide_eq_true rfl,Bool.true_and]
  go_enter Tryz.func60,Tryz.ntmps60
  go_wp2_with fail
  refine (Q4_ m _ _ o.out k.out).mono ?_;rintro e w1 ⟨rfl,hb1⟩;rw [HD.out];have Hb1:=hid (Z0_ Hb0.out (le_refl _) hb1);have y:=hid (x.out.up hb1);have B:=(c.out.below hb1 c.out.lt).cell 1;clear hb1 g0 g1 g2 g3 g4 g5
  go_wp2_with fail
  refine (E2_ _ s m.n _ y.out).mono ?_;rintro e F ⟨rfl,p⟩;have Hb2:=hid (Z0_ Hb1.out (le_refl _) p);clear p B;exact k2_
 ·rw [decide_eq_false h,Bool.false_and]
  have E:(D==0)=false:=k39_;clear h
  go_enter Tryz.func60,Tryz.ntmps60
  go_wp2_with fail
  refine (Q4_ m _ _ o.out k.out).mono ?_;exact y35_
theorem Zd9 (E:Nat→Addr) (m:Mat) (v d:Value) (s:List Int) (w:World) (j:MatV w w.heap.size v m) (hs:Sml m) (h:Row w w.heap.size d s) (y:s.length≤1048576) (x:Env E w):Calls Tryz.prog 70 #[v,d] w (Tells w (rankT m s)):=by
 have r:=hid hs;obtain ⟨B,z,J,_,_⟩:=j.open;obtain ⟨L,cs,rfl,_⟩:=id h;have Hb0:=hid (Z1_ w m B z);have u:=hid (j.up Hb0.out);have q:=hid (h.up Hb0.out);have c:=hid (Z3_ w m B z);have g0:=c.out.cell 0;have g1:=c.out.cell 1;have g2:=c.out.cell 2;have g3:=c.out.cell 3;have g4:=c.out.cell 4;have g5:=c.out.cell 5;subst J;unfold boxed at *
 have k:=hid (x.up Hb0.out);unfold rankT;rcases hm:mayI m s with _ | _
 ·rw [if_neg k36_]
  have p:=hid hm;clear j hs h x hm
  go_enter Tryz.func70,Tryz.ntmps70
  go_wp2_with fail
  refine (Zj8 E m _ _ s _ u.out r.out q.out y k.out).mono ?_;rintro e K ⟨rfl,hb1⟩;rw [p.out];exact k27_
 ·rw [if_pos rfl]
  have p:=hid hm;have o:=hid (mayI_iff.1 hm);obtain ⟨R,hR⟩:∃ R:Nat,rkP 4 m (memP s)=R:=⟨_,rfl⟩;have F:Hid (∀ (v d:Value) (W:World),MatV W W.heap.size v m→Row W W.heap.size d s→Env E W→Calls Tryz.prog 94 #[v,d] W (Tells W (R:Int))):=hid fun v d W H I h3=>by rw [← hR];exact Yi3 E 4 m v d s W H r.out o.out.1 (chk_ok.1 o.out.1).1 I o.out.2 h3
  rw [hR];clear j hs h x hm hR
  go_enter Tryz.func70,Tryz.ntmps70
  go_wp2_with fail
  refine (Zj8 E m _ _ s _ u.out r.out q.out y k.out).mono ?_;rintro e K ⟨rfl,hb1⟩;rw [p.out];have Hb1:=hid (Z0_ Hb0.out (le_refl _) hb1);have D:=hid (q.out.up hb1);have G:=hid (u.out.up hb1);have C:=hid (k.out.up hb1);have g:=hid (c.out.below hb1 c.out.lt);clear hb1 g0 g1 g2 g3 g4 g5;have g0:=g.out.cell 0;have g1:=g.out.cell 1;have g2:=g.out.cell 2;have g3:=g.out.cell 3;have g4:=g.out.cell 4;have g5:=g.out.cell 5
  go_wp2_with fail
  refine (F.out _ _ _ G.out D.out C.out).mono ?_;rintro e M ⟨rfl,hb2⟩;exact x31_
theorem Ze0 (E:Nat→Addr) (m:Mat) (v u:Value) (s:List Int) (w:World) (k:MatV w w.heap.size v m) (hs:Sml m) (j:Row w w.heap.size u s) (M:s.length≤1048576) (o:Env E w):Calls Tryz.prog 53 #[v,u] w (Says w (indT m s)):=by
 have C:=hid hs;obtain ⟨r,q,N,_,_⟩:=k.open;obtain ⟨O,cs,rfl,_⟩:=id j;have d:=hid (Z1_ w m r q);have D:=hid (k.up d.out);have B:=hid (j.up d.out);have c:=hid (Z3_ w m r q);have F:=c.out.cell 0;have G:=c.out.cell 1;have H:=c.out.cell 2;have I:=c.out.cell 3;have J:=c.out.cell 4;have K:=c.out.cell 5;subst N;unfold boxed at *
 have x:=hid (o.up d.out);obtain ⟨R,hR⟩:∃ R,rankT m s=R:=⟨_,rfl⟩;have y:=hid hR;obtain ⟨g,h⟩:∃ g,indT m s=g:=⟨_,rfl⟩;have L:(R==(s.length:Int))=g:=by rw [← h,← hR];unfold indT;rw [Bool.eq_iff_iff,beq_iff_eq,decide_eq_true_iff]
 rw [h];clear k hs j o hR h
 go_enter Tryz.func53,Tryz.ntmps53
 go_wp2_with fail
 refine (Zd9 E m _ _ s _ D.out C.out B.out M x.out).mono ?_;rintro e P ⟨rfl,p⟩;rw [y.out];have z:=hid (Z0_ d.out (le_refl _) p);clear p F G H I J K;go_wp2;go_ret;exact ⟨by rw [← L];rfl,z.out⟩
open Go.RowKit
theorem Xb9 (W:World) (B:Nat):Rows2 W B (.slice none 0 0) []:=⟨none,0,rfl,⟨le_refl _,k36_,fun _=>rfl⟩,fun k c=>absurd c z36_⟩
theorem J7_ (W:World) (B:Nat) (t n a b:Int):MatV W B (.agg #[.int .i64 t,.int .i64 n,.int .i64 a,.int .i64 b,.slice none 0 0,.slice none 0 0]) (.mk t n a b [] []):=MatV.shut (Xb9 W B) (MatL.nil_ W B)
theorem J8_ (t n a b:Int):Sml (.mk t n a b [] []):=.mk z36_ z36_ z36_ z36_
end Wp
end Go.Proofs.YteiejkhdonmcdaaGreatDoor
namespace Go.Proofs.YteiejkhdonmcdaaGreatDoor.Wp
open Go Go.RowKit
end Go.Proofs.YteiejkhdonmcdaaGreatDoor.Wp
namespace Go.Proofs.YteiejkhdonmcdaaGreatDoor
open Go.RowKit
namespace Wp
open Go.RowKit
end Wp
end Go.Proofs.YteiejkhdonmcdaaGreatDoor
