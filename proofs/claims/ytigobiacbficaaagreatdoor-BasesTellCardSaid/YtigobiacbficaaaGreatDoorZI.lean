/- The program's May, Rank and Indep, and the document's May, walked. Matroids written out in memory. -/
import Derived.Test.YtigobiacbficaaaGreatDoorZW
import Derived.Test.YtigobiacbficaaaGreatDoorZT
import Derived.Test.YtigobiacbficaaaGreatDoorQTD
import Derived.Test.YtigobiacbficaaaGreatDoorZA
import Derived.Test.YtigobiacbficaaaGreatDoorZO
import Derived.Test.YtigobiacbficaaaGreatDoorIRank
import Derived.Deep.RegionHeld3
import Derived.Test.YtigobiacbficaaaGreatDoorX0A
import Derived.Test.YtigobiacbficaaaGreatDoorX0B
set_option maxHeartbeats 8000000
set_option maxRecDepth 100000
open Go.Lib (hid)
open Nat (le_refl)
namespace Go.Proofs.YtigobiacbficaaaGreatDoor.Wp
open Go.RowKit
def mayI (m:Mat) (s:List Int):Bool:=decide (chk m=0) && subB s (allL m.n)
noncomputable def rankT (m:Mat) (s:List Int):Int:=if mayI m s=true then (rkP 4 m (memP s):Nat) else -1
noncomputable def indT (m:Mat) (s:List Int):Bool:=decide (rankT m s=(s.length:Int))
theorem mayI_iff {m:Mat} {s:List Int}:mayI m s=true↔chk m=0∧InN (nN m) s:=by
 unfold mayI;rw [Bool.and_eq_true,decide_eq_true_iff];constructor
 ·rintro ⟨c,h2⟩;exact ⟨c,(S9_ (chk_n c).1 (chk_n c).2).1 h2⟩
 ·rintro ⟨c,h2⟩;exact ⟨c,(S9_ (chk_n c).1 (chk_n c).2).2 h2⟩
theorem Vd4 (m:Mat) (s:List Int):mayI m s=(decide (chk m=0) && okA m.n s):=by
 unfold mayI;by_cases h:chk m=0
 ·rw [Zx2 (chk_n h).1 (chk_n h).2]
 ·rw [decide_eq_false h];rfl
theorem Yu3 (E:Nat→Addr) (m:Mat) (v z:Value) (s:List Int) (w:World) (k:MatV w w.heap.size v m) (hs:Sml m) (j:Row w w.heap.size z s) (I:s.length≤1048576) (r:Env E w):Calls Tryz.prog 48 #[v,z] w (Says w (mayI m s)):=by
 have p:=hid hs;obtain ⟨y,x,J,_,_⟩:=k.open;obtain ⟨L,cs,rfl,_⟩:=id j;have Hb0:=hid (Z1_ w m y x);have q:=hid (k.up Hb0.out);have B:=hid (j.up Hb0.out);have c:=hid (Z4_ w m y x);have g0:=c.out.cell 0;have g1:=c.out.cell 1;have g2:=c.out.cell 2;have g3:=c.out.cell 3;have g4:=c.out.cell 4;have g5:=c.out.cell 5;subst J;unfold boxed at *
 have o:=hid (r.up Hb0.out);obtain ⟨D,d⟩:∃ D,chk m=D:=⟨_,rfl⟩;have HD:=hid d;have H:=D4_ m.n;unfold mayI;rw [d];clear k hs j r d;by_cases h:D=0
 ·subst h
  rw [decide_eq_true rfl,Bool.true_and]
  go_enter Tryz.func48,Tryz.ntmps48
  go_wp2_with fail
  refine (C2_ E m _ _ q.out p.out o.out).mono ?_;rintro e w1 ⟨rfl,hb1⟩;rw [HD.out];have Hb1:=hid (Z0_ Hb0.out (le_refl _) hb1);have C:=hid (B.out.up hb1);have K:=(c.out.below hb1 c.out.lt).cell 1;clear hb1 g0 g1 g2 g3 g4 g5
  go_wp2_with fail
  refine (D0_ m.n _).mono ?_;rintro e O ⟨N,rfl,u,g⟩;have Hb2:=hid (Z0_ Hb1.out (le_refl _) g);have F:=hid (C.out.up g);have G:=hid u;clear g u K
  go_wp2_with fail
  refine (Zy0 _ _ s (allL m.n) _ F.out G.out I H).mono ?_;exact x5_
 ·rw [decide_eq_false h,Bool.false_and]
  have M:(D==0)=false:=k44_;clear h
  go_enter Tryz.func48,Tryz.ntmps48
  go_wp2_with fail
  refine (C2_ E m _ _ q.out p.out o.out).mono ?_;exact k39_
theorem R1_ (m:Mat) (v u:Value) (s:List Int) (w:World) (j:MatV w w.heap.size v m) (hs:Sml m) (g:Row w w.heap.size u s):Calls Tryz.prog 40 #[v,u] w (Says w (mayI m s)):=by
 have k:=hid hs;obtain ⟨r,q,z,_,_⟩:=j.open;obtain ⟨C,cs,rfl,_⟩:=id g;have Hb0:=hid (Z1_ w m r q);have o:=hid (j.up Hb0.out);have x:=hid (g.up Hb0.out);have c:=hid (Z4_ w m r q);have g0:=c.out.cell 0;have g1:=c.out.cell 1;have g2:=c.out.cell 2;have g3:=c.out.cell 3;have g4:=c.out.cell 4;have g5:=c.out.cell 5;subst z;unfold boxed at *
 obtain ⟨D,d⟩:∃ D,chk m=D:=⟨_,rfl⟩;have HD:=hid d;rw [Vd4,d];clear j hs g d;by_cases h:D=0
 ·subst h
  rw [decide_eq_true rfl,Bool.true_and]
  go_enter Tryz.func40,Tryz.ntmps40
  go_wp2_with fail
  refine (Q1_ m _ _ o.out k.out).mono ?_;rintro e w1 ⟨rfl,hb1⟩;rw [HD.out];have Hb1:=hid (Z0_ Hb0.out (le_refl _) hb1);have y:=hid (x.out.up hb1);have B:=(c.out.below hb1 c.out.lt).cell 1;clear hb1 g0 g1 g2 g3 g4 g5
  go_wp2_with fail
  refine (H7_ _ s m.n _ y.out).mono ?_;rintro e F ⟨rfl,p⟩;have Hb2:=hid (Z0_ Hb1.out (le_refl _) p);clear p B;exact j2_
 ·rw [decide_eq_false h,Bool.false_and]
  have E:(D==0)=false:=k44_;clear h
  go_enter Tryz.func40,Tryz.ntmps40
  go_wp2_with fail
  refine (Q1_ m _ _ o.out k.out).mono ?_;exact k39_
theorem Yb9 (E:Nat→Addr) (m:Mat) (v d:Value) (s:List Int) (w:World) (j:MatV w w.heap.size v m) (hs:Sml m) (h:Row w w.heap.size d s) (z:s.length≤1048576) (x:Env E w):Calls Tryz.prog 31 #[v,d] w (Tells w (rankT m s)):=by
 have r:=hid hs;obtain ⟨C,B,J,_,_⟩:=j.open;obtain ⟨L,cs,rfl,_⟩:=id h;have Hb0:=hid (Z1_ w m C B);have u:=hid (j.up Hb0.out);have q:=hid (h.up Hb0.out);have c:=hid (Z4_ w m C B);have g0:=c.out.cell 0;have g1:=c.out.cell 1;have g2:=c.out.cell 2;have g3:=c.out.cell 3;have g4:=c.out.cell 4;have g5:=c.out.cell 5;subst J;unfold boxed at *
 have k:=hid (x.up Hb0.out);unfold rankT;rcases hm:mayI m s with _ | _
 ·rw [if_neg q41_]
  have p:=hid hm;clear j hs h x hm
  go_enter Tryz.func31,Tryz.ntmps31
  go_wp2_with fail
  refine (Yu3 E m _ _ s _ u.out r.out q.out z k.out).mono ?_;rintro e K ⟨rfl,hb1⟩;rw [p.out];exact z31_
 ·rw [if_pos rfl]
  have p:=hid hm;have o:=hid (mayI_iff.1 hm);obtain ⟨R,y⟩:∃ R:Nat,rkP 4 m (memP s)=R:=⟨_,rfl⟩;have G:Hid (∀ (v d:Value) (W:World),MatV W W.heap.size v m→Row W W.heap.size d s→Env E W→Calls Tryz.prog 49 #[v,d] W (Tells W (R:Int))):=hid fun v d W I h2 h3=>by rw [← y];exact Ys4 E 4 m v d s W I r.out o.out.1 (chk_ok.1 o.out.1).1 h2 o.out.2 h3
  rw [y];clear j hs h x hm y
  go_enter Tryz.func31,Tryz.ntmps31
  go_wp2_with fail
  refine (Yu3 E m _ _ s _ u.out r.out q.out z k.out).mono ?_;rintro e K ⟨rfl,hb1⟩;rw [p.out];have Hb1:=hid (Z0_ Hb0.out (le_refl _) hb1);have F:=hid (q.out.up hb1);have H:=hid (u.out.up hb1);have D:=hid (k.out.up hb1);have g:=hid (c.out.below hb1 c.out.lt);clear hb1 g0 g1 g2 g3 g4 g5;have g0:=g.out.cell 0;have g1:=g.out.cell 1;have g2:=g.out.cell 2;have g3:=g.out.cell 3;have g4:=g.out.cell 4;have g5:=g.out.cell 5
  go_wp2_with fail
  refine (G.out _ _ _ H.out F.out D.out).mono ?_;rintro e M ⟨rfl,hb2⟩;exact k34_
theorem Xp2 (E:Nat→Addr) (m:Mat) (v x:Value) (s:List Int) (w:World) (o:MatV w w.heap.size v m) (hs:Sml m) (k:Row w w.heap.size x s) (N:s.length≤1048576) (p:Env E w):Calls Tryz.prog 122 #[v,x] w (Says w (indT m s)):=by
 have D:=hid hs;obtain ⟨u,r,O,_,_⟩:=o.open;obtain ⟨P,cs,rfl,_⟩:=id k;have d:=hid (Z1_ w m u r);have F:=hid (o.up d.out);have C:=hid (k.up d.out);have c:=hid (Z4_ w m u r);have G:=c.out.cell 0;have H:=c.out.cell 1;have I:=c.out.cell 2;have J:=c.out.cell 3;have K:=c.out.cell 4;have L:=c.out.cell 5;subst O;unfold boxed at *
 have y:=hid (p.up d.out);obtain ⟨R,h⟩:∃ R,rankT m s=R:=⟨_,rfl⟩;have z:=hid h;obtain ⟨g,j⟩:∃ g,indT m s=g:=⟨_,rfl⟩;have M:(R==(s.length:Int))=g:=by rw [← j,← h];unfold indT;rw [Bool.eq_iff_iff,beq_iff_eq,decide_eq_true_iff]
 rw [j];clear o hs k p h j
 go_enter Tryz.func122,Tryz.ntmps122
 go_wp2_with fail
 refine (Yb9 E m _ _ s _ F.out D.out C.out N y.out).mono ?_;rintro e Q ⟨rfl,q⟩;rw [z.out];have B:=hid (Z0_ d.out (le_refl _) q);clear q G H I J K L;go_wp2;go_ret;exact ⟨by rw [← M];rfl,B.out⟩
open Go.RowKit
theorem Xp3 (W:World) (B:Nat):Rows2 W B (.slice none 0 0) []:=⟨none,0,rfl,⟨le_refl _,q41_,fun _=>rfl⟩,fun k c=>absurd c k40_⟩
theorem O9_ (W:World) (B:Nat) (t n a b:Int):MatV W B (.agg #[.int .i64 t,.int .i64 n,.int .i64 a,.int .i64 b,.slice none 0 0,.slice none 0 0]) (.mk t n a b [] []):=MatV.shut (Xp3 W B) (MatL.nil_ W B)
theorem Zz3 (t n a b:Int):Sml (.mk t n a b [] []):=.mk k40_ k40_ k40_ k40_
open Go
theorem rk_of {m:Mat} (h:chk m=0):Rk (nN m) (rkP 4 m):=rk_ok 4 m h (chk_ok.1 h).1
theorem Vi6 (P Q:Nat→Bool):∀ n,cnt (orP P Q) n+cnt (andP P Q) n=cnt P n+cnt Q n
 | 0=>by simp [cnt]
 | n+1=>by
  have c:=Vi6 P Q n;rw [X4_,X4_,X4_,X4_];show _+(if (P n || Q n)=true then 1 else 0)+(_+(if (P n && Q n)=true then 1 else 0))=_;cases P n<;>cases Q n<;>simp<;>omega
open Go Go.RowKit
theorem Rk.closed {n:Nat} {f:(Nat→Bool)→Nat} (h:Rk n f) (P S:Nat→Bool) (hs:∀ x,x<n→S x=true→f (insP P x)=f P):∀ k,k≤n→f (addK P S k)=f P
 | 0,_=>by rw [H0_]
 | k+1,hk=>by
  have c:=h.closed P S hs k y40_;cases e:S k
  ·rw [S6_ e];exact c
  ·have d:=h.dim_add P S (x:=k) y40_ k y40_
   have h2:=hs k y40_ e;have h3:=h.up' (addK P S k) (x:=k) y40_;rw [L6_ e];omega
theorem M4_ {m:Mat} {s:List Int} (h:mayI m s=true):indT m s=true↔rkP 4 m (memP s)=s.length:=by
 unfold indT;rw [show rankT m s=_ from if_pos h,decide_eq_true_iff];omega
theorem Vt6 {m:Mat} (h:chk m=0):indT m []=true:=by
 have c:mayI m []=true:=mayI_iff.2 ⟨h,Xi3 _⟩;rw [M4_ c,Za0,(rk_ok 4 m h (chk_ok.1 h).1).zero];rfl
theorem Zu2 {x:Int} (h:0≤x) (P:Nat→Bool):orP P (memP [x])=insP P x.toNat:=by
 funext i
 unfold orP insP;have:memP [x] i=(i==x.toNat):=by rw [Bool.eq_iff_iff,memP_iff,beq_iff_eq,List.mem_singleton];omega
 rw [this,Bool.or_comm]
theorem Row.nth {w:World} {B:Nat} {A:Option Addr} {n c:Nat} {l:List Int} (h:Row w B (.slice A n c) l) {k:Nat} (hk:k<l.length):∃ ad,A=some ad∧∀ W,Below B w W→W.cell? (ad.add k)=some (.int .i64 (l.getD k 0)):=q14_
def baseL (I:List Int→Bool):List Int→List Int→List Int
 | out,[]=>out
 | out,x :: r=>baseL I (if I (Y1_ out [x])=true then out ++ [x] else out) r
def cntC (cl s:List Int) (c:Int):Nat:=(s.filter fun x=>cl.getD x.toNat 0==c).length
def F8_ (l:List (List Int)):List Int→List Int→Bool
 | [],_=>true
 | x :: s,used=>(Z8_ (l.getD x.toNat []) used).any fun r=>F8_ l s (Y1_ used [r])
theorem Xp4 {cl s:List Int} {c:Int} {k:Nat} (d:k<s.length):cntC cl (s.take (k+1)) c=cntC cl (s.take k) c+if cl.getD (s.getD k 0).toNat 0=c then 1 else 0:=by
 unfold cntC;rw [List.take_succ_eq_append_getElem d,List.filter_append,List.length_append,show s[k]=s.getD k 0 by simp [List.getD,d]];congr 1;rw [List.filter_cons];by_cases h:cl.getD (s.getD k 0).toNat 0=c
 ·rw [if_pos h,if_pos (by rw [h];exact beq_self_eq_true c)];rfl
 ·rw [if_neg h,if_neg k44_];rfl
theorem Vt7 (cl s:List Int) (c:Int):cntC cl s c≤s.length:=List.length_filter_le _ _
theorem Row.nthV {w:World} {B:Nat} {A:Option Addr} {n c:Nat} {l:List Int} (h:Row w B (.slice A n c) l) {k:Nat} (hk:k<l.length):∃ ad,A=some ad∧∀ W,Below B w W→W.cell? (ad.add k)=some (.int .i64 (l.getD k 0)):=q14_
theorem Xp5 (vc vs:Value) (cl s:List Int) (c:Int) (w:World) (hc:Row w w.heap.size vc cl) (hs:Row w w.heap.size vs s) (v:∀ k,k<s.length→0≤s.getD k 0∧s.getD k 0<(cl.length:Int)) (T:s.length≤64) :
  Calls Tryz.prog 115 #[vc,vs,.int .i64 c] w (Tells w (cntC cl s c:Nat)):=by
 have x:=hid hc;have z:=hid hs;have C:=hid v;have S:(s.length:Int)≤64:=y40_;obtain ⟨H,L,rfl,_⟩:=hc;obtain ⟨I,cs,rfl,_⟩:=hs;clear v
 go_enter Tryz.func115,Tryz.ntmps115
 go_wp2
 go_loopw [7,8] (fun vn o wr=>∃ k:Nat,o=.int .i64 (k:Int)∧k≤s.length∧vn=.int .i64 (cntC cl (s.take k) c:Nat)∧Below w.heap.size w wr) (fun _ o _=>s.length - (intOf o).toNat)
 case atStart=>exact ⟨0,rfl,Nat.zero_le _,by rw [List.take_zero];rfl,Below.refl _ _⟩
 case round =>
  obtain ⟨k,rfl,Q,rfl,q⟩:=hrel;have e:=hid q;clear q;by_cases j:k<s.length
  ·have R:(k:Int)<(s.length:Int):=by omega
   obtain ⟨K,D,u⟩:=Row.nthV z.out j;subst D;have gs:=u _ e.out;have m:=C.out k j;have d:=hid (Xp4 (cl:=cl) (c:=c) j);have G:=Vt7 cl (s.take k) c;rw [List.length_take] at G;obtain ⟨X,p⟩:∃ X:Nat,s.getD k 0=(X:Int):=⟨(s.getD k 0).toNat,y40_⟩;rw [p] at gs m d;rw [show ((X:Int)).toNat=X from rfl] at d;obtain ⟨J,E,r⟩:=Row.nthV x.out (k:=X) y40_;subst E;have M:=r _ e.out;generalize cl.getD X 0=y at *
   generalize cntC cl (s.take k) c=N at *
   have O:(N:Int)≤64:=y40_;have P:(X:Int)<(cl.length:Int):=m.2;clear u r p m;by_cases g:y=c
   ·have h:Hid (cntC cl (s.take (k+1)) c=N+1):=hid (by rw [d.out,if_pos g])
    clear d;subst g;go_wp2
    go_roundw
    case rel=>exact ⟨k+1,j41_,y40_,by rw [h.out];go_num,e.out⟩
    exact mz_
   ·have h:Hid (cntC cl (s.take (k+1)) c=N):=hid (by rw [d.out,if_neg g,Nat.add_zero])
    have U:(y==c)=false:=by simpa using g
    clear d;go_wp2
    go_roundw
    case rel=>exact ⟨k+1,j41_,y40_,by rw [h.out],e.out⟩
    exact mz_
  ·have F:k=s.length:=by omega
   subst F;have B:Hid (s.take s.length=s):=hid List.take_length;rw [B.out];go_wp2;go_ret;exact ⟨rfl,e.out⟩
theorem Row.oneV {w:World} {B:Nat} {A:Option Addr} {n c:Nat} {l:List Int} (h:Row w B (.slice A n c) l) {i:Nat} (j:i<l.length):∃ d,A=some d∧n=l.length∧i<c∧Row w B (.slice (some (d.add i)) 1 (c - i)) [l.getD i 0]:=by
 obtain ⟨p,c',g,⟨q,h2,h3⟩,m⟩:=h;injection g with e1 e2 e3;subst e1 e2 e3;obtain ⟨d,rfl,f,hc⟩:=m i j;refine ⟨d,rfl,rfl,y40_,_,_,rfl,⟨by simp;omega,y40_,fun e=>by cases e⟩,fun k o=>?_⟩;have:k=0:=by simpa using o
 subst this;exact ⟨_,rfl,by rw [Z2_];exact f,by rw [add_zero];exact hc⟩
theorem Yl1 (e:Value) (s:List Int) (f n:Int) (w:World) (h:Row w w.heap.size e s) (hs:∀ k,k<s.length→0≤s.getD k 0∧s.getD k 0≤64) (o:0≤f∧f≤1000) (q:0≤n∧n≤1000) (u:s.length≤64) :
  Calls Tryz.prog 87 #[e,.int .i64 f,.int .i64 n] w (Gives w (betL s f n)):=by
 obtain ⟨m,cs,rfl,_,d⟩:=h;have Hsk:=hid d;have Hs:=hid hs;have r:(s.length:Int)≤64:=y40_;have v:IntKind.i64.wrap (f+n)=f+n:=y41_;have hown0:(w.alloc (.cells #[] 3)).ownsRow w.heap.size 3 1 (.slice (some ⟨w.heap.size,0,none⟩) 0 0) ([]:List Int).length (ints []) :=
  World.ownsRow_made w #[] 0 (le_refl _) z41_ rfl
 have g:Below w.heap.size w (w.alloc (.cells #[] 3)):=(Below.refl _ w).alloc (le_refl _) _;clear d hs
 go_enter Tryz.func87,Tryz.ntmps87
 go_wp2
 go_loopw [7,8] (fun j c wr=>∃ k:Nat,c=.int .i64 k∧k≤s.length∧wr.ownsRow w.heap.size 3 1 j (betL (s.take k) f n).length (ints (betL (s.take k) f n))∧Below w.heap.size w wr) (fun _ c _=>s.length - (intOf c).toNat)
 case atStart=>exact ⟨0,rfl,Nat.zero_le _,hown0,g⟩
 case round =>
  exact x1_
open Go Go.RowKit
theorem Vd5 {n:Nat} (e:n≤64) {x:Int} (d:0≤x∧x<(n:Int)):InN n [x]:=⟨⟨k40_,fun z c=>by rw [List.mem_singleton.1 c];exact ⟨y40_,y40_⟩⟩,fun z c=>by rw [List.mem_singleton.1 c];exact d⟩
theorem Vt8 {n:Nat} (c:n≤64) {out:List Int} {x:Int} (ho:InN n out) (d:0≤x∧x<(n:Int)) (hlt:∀ y∈out,y<x):InN n (out ++ [x])∧InN n (Y1_ out [x]):=by
 have h1:=Vd5 c d;refine ⟨⟨⟨?_,fun y hy=>?_⟩,fun y hy=>?_⟩,⟨E3_ _ _,fun y hy=>?_⟩⟩
 ·exact z23_
 ·exact y27_
 ·rcases List.mem_append.1 hy with hy | hy
  ·exact ho.2 y hy
  ·exact h1.2 y hy
 ·rcases (A5_ ho.1 h1.1 y).1 hy with hy | hy
  ·exact ho.2 y hy
  ·exact h1.2 y hy
theorem Xp6 {s:List Int} {k:Nat} (c:k<s.length):s.drop k=s.getD k 0 :: s.drop (k+1):=by
 rw [List.drop_eq_getElem_cons c];simp [List.getD,c]
theorem Zb0 (n:Nat) (hn:n≤64) (I:List Int→Bool) (m c1 c2 c3 c4 c5 sv:Value) (s:List Int) (w:World) (hs:InN n s) (y2:s.length≤64) (S:Row w w.heap.size sv s)
  (X:∀ (t:List Int) (vt:Value) (W:World),Below w.heap.size w W→InN n t→Row W W.heap.size vt t→Calls Tryz.prog 61 #[.agg #[m,c1,c2,c3,c4,c5],vt] W (Says W (I t))) :
  Calls Tryz.prog 41 #[.agg #[m,c1,c2,c3,c4,c5],sv] w (Gives w (baseL I [] s)):=by
 have Z:=hid hs;have xg:=hid X;have y1:(s.length:Int)≤64:=y40_;obtain ⟨d,hW0⟩:∃ d,d=w.alloc (.cells #[m,c1,c2,c3,c4,c5] 25):=⟨_,rfl⟩;have xm:=hid hW0;have K:Hid (Below w.heap.size w d):=hid y42_;have v:w.heap.size<d.heap.size:=z42_;have HC:Hid (∀ (W:World),Below d.heap.size d W→W.cell? ⟨w.heap.size,0,none⟩=some m∧W.cell? ⟨w.heap.size,1,none⟩=some c1∧W.cell? ⟨w.heap.size,2,none⟩=some c2∧W.cell? ⟨w.heap.size,3,none⟩=some c3∧W.cell? ⟨w.heap.size,4,none⟩=some c4∧W.cell? ⟨w.heap.size,5,none⟩=some c5):=hid fun W o=>by
  have u:=Blk.new w 25 #[m,c1,c2,c3,c4,c5];rw [← hW0] at u;exact ⟨(o.cell (p:=⟨w.heap.size,0,none⟩) v).trans (u.cell 0),(o.cell (p:=⟨w.heap.size,1,none⟩) v).trans (u.cell 1),(o.cell (p:=⟨w.heap.size,2,none⟩) v).trans (u.cell 2),(o.cell (p:=⟨w.heap.size,3,none⟩) v).trans (u.cell 3),(o.cell (p:=⟨w.heap.size,4,none⟩) v).trans (u.cell 4),(o.cell (p:=⟨w.heap.size,5,none⟩) v).trans (u.cell 5)⟩
 have Y:=hid (S.up K.out);obtain ⟨As,cs,rfl,_⟩:=id S;have xb:d.heap.size=w.heap.size+1:=z42_;have x7:(d.alloc (.cells #[] 3)).ownsRow d.heap.size 3 1 (.slice (some ⟨w.heap.size+1,0,none⟩) 0 0) ([]:List Int).length (ints []):=by
  rw [← xb];exact World.ownsRow_made d #[] 0 (le_refl _) z41_ rfl
 have x0:Below d.heap.size d (d.alloc (.cells #[] 3)):=(Below.refl _ d).alloc (le_refl _) _;have xk:=hid x7;have xc:=hid x0;clear X hs S x7 x0
 go_enter Tryz.func41,Tryz.ntmps41
 go_wp2;rw [← xm.out];clear hW0
 go_loopw [5,6] (fun vo U wr=>∃ (k:Nat) (out:List Int),U=.int .i64 (k:Int)∧k≤s.length∧Hid (baseL I out (s.drop k)=baseL I [] s∧InN n out∧(∀ y∈out,∀ z∈s.drop k,y<z)∧out.length≤k∧wr.ownsRow d.heap.size 3 1 vo out.length (ints out)∧Below d.heap.size d wr)) (fun _ U _=>s.length - (intOf U).toNat)
 case atStart=>exact ⟨0,[],rfl,Nat.zero_le _,by rw [List.drop_zero],⟨J0_,fun x B=>absurd B k40_⟩,fun y j=>absurd j k40_,Nat.zero_le _,xk.out,xc.out⟩
 case round =>
  obtain ⟨k,out,rfl,hk,g⟩:=hrel;by_cases H:k<s.length
  ·have xz:(k:Int)<(s.length:Int):=by omega
   have y3:IntKind.i64.wrap ((k:Int)+1)=(k:Int)+1:=y41_;have P:=(Below.refl wr.heap.size wr).drew;have F:=g.out.2.2.2.2.2;obtain ⟨ad,hA,_,xw,x6⟩:=Row.oneV (Y.out.up F) H;subst hA;obtain ⟨xv,O,Q⟩:=Row.nthV Y.out H;injection O with O;subst O;have R:=x6.up P;have xx:(k:Int)+1≤(cs:Int):=y40_;have K5:Hid (∀ W,Below wr.drew.heap.size wr.drew W→W.cell? ⟨w.heap.size,0,none⟩=some m∧W.cell? ⟨w.heap.size,1,none⟩=some c1∧W.cell? ⟨w.heap.size,2,none⟩=some c2∧W.cell? ⟨w.heap.size,3,none⟩=some c3∧W.cell? ⟨w.heap.size,4,none⟩=some c4∧W.cell? ⟨w.heap.size,5,none⟩=some c5):=hid fun W o=>HC.out W (Z0_ F.drew (le_refl _) o);have r:Hid (Below wr.drew.heap.size wr.drew wr.drew):=hid (Below.refl _ _);obtain ⟨x,B⟩:∃ x,s.getD k 0=x:=⟨_,rfl⟩;rw [B] at R Q;have xf:=hid Q;have G:=Xp6 H;rw [B] at G;have C:=hid G;have xn:Hid (0≤x∧x<(n:Int)):=hid (Z.out.2 x (by rw [← B];simp [List.getD,H]));have xq:Hid (∀ (A:Option Addr) (n c:Nat),A=some (ad.add k)→n=1→c=cs - k→Row wr.drew wr.drew.heap.size (.slice A n c) [x]):=hid fun A n c N h2 h3=>by subst N h2 h3;exact R
   have V:=hid (Vt8 hn g.out.2.1 xn.out fun y j=>g.out.2.2.1 y j x (by rw [G];simp));have xl:=hid ((Row.of_own g.out.2.2.2.2.1 rfl).up P);have xj:Hid (out.length≤1048576):=hid (by have:=g.out.2.2.2.1;omega);obtain ⟨z,T⟩:∃ z,I (Y1_ out [x])=z:=⟨_,rfl⟩;have HZ:=hid T;have xe:=hid (Z0_ K.out (le_refl _) (F.drew.mono (le_refl _)));have xh:Hid (∀ (vt:Value) (W:World),Below wr.drew.heap.size wr.drew W→Row W W.heap.size vt (Y1_ out [x])→Calls Tryz.prog 61 #[.agg #[m,c1,c2,c3,c4,c5],vt] W (Says W z)):=hid fun vt W N h2=>by rw [← T];exact xg.out _ vt W (Z0_ xe.out (le_refl _) N) V.out.2 h2
   have x5:k+1≤s.length:=y40_;have xy:(k:Int)≤(k:Int)+1:=y40_;clear x6 R G F B T Q P;go_wp2
   go_region_held3 (fun W=>W.cell? ⟨w.heap.size,0,none⟩=some m∧W.cell? ⟨w.heap.size,1,none⟩=some c1∧W.cell? ⟨w.heap.size,2,none⟩=some c2∧W.cell? ⟨w.heap.size,3,none⟩=some c3∧W.cell? ⟨w.heap.size,4,none⟩=some c4∧W.cell? ⟨w.heap.size,5,none⟩=some c5)
    (exact K5.out _ r.out)
    (first
    | (go_at_call 53;refine (B2_ _ _ out [x] _ xl.out (xq.out _ _ _ (by simp;intro h;omega) (by first | rfl | (simp;try omega)) (by first | rfl | (simp;try omega))) xj.out k40_).mono ?_;rintro e y4 ⟨xu,rfl,xa,x1⟩;replace r:=hid (Z0_ r.out (le_refl _) x1);have HU:=hid xa;clear xa x1)
    | (go_at_call_of 61 xu;refine (xh.out _ _ r.out HU.out).mono ?_;rintro e y5 ⟨rfl,x2⟩;replace r:=hid (Z0_ r.out (le_refl _) x2);clear x2))
   all_goals
    go_simp;have L:=hid (Z0_ ((Below.refl wr.heap.size wr).drew) (le_refl _) r.out);have D:=hid (Z0_ g.out.2.2.2.2.2 (le_refl _) L.out);cases z
    ·have M:Hid (baseL I out (s.drop (k+1))=baseL I [] s):=hid (by rw [← g.out.1,C.out,baseL,if_neg (by rw [HZ.out];decide)])
     have E:=hid (World.ownsRow.kept g.out.2.2.2.2.1 (Z7_ L.out none) j45_);go_wp2
     go_roundw
     case rel=>exact ⟨k+1,out,j41_,x5,M.out,g.out.2.1,fun y j q J=>g.out.2.2.1 y j q (by rw [C.out];simp [J]),by have:=g.out.2.2.2.1;omega,E.out,D.out⟩
     exact mz_
    ·have M:Hid (baseL I (out ++ [x]) (s.drop (k+1))=baseL I [] s):=hid (by rw [← g.out.1,C.out,baseL,if_pos HZ.out])
     have E:=hid (World.ownsRow.kept g.out.2.2.2.2.1 (Z7_ L.out none) j45_);have gx:=xf.out _ D.out;have xt:=D.out.size;have y0:=g.out.2.2.2.1;have xr:Hid (∀ y∈out ++ [x],∀ q∈s.drop (k+1),y<q):=hid fun y j q J=>by
      rcases List.mem_append.1 j with j | j
      ·exact g.out.2.2.1 y j q (by rw [C.out];simp [J])
      ·rw [List.mem_singleton.1 j]
       have hp:(x :: s.drop (k+1)).Pairwise (·<·):=by rw [← C.out];exact Z.out.1.1.sublist (List.drop_sublist _ _)
       exact (List.pairwise_cons.1 hp).1 q J
     go_wp2_with (at_builtin;refine Z5_ rfl _ _ rfl d.heap.size _ _ _ out [x] rfl rfl (World.ownsRow.alloc E.out _) (Row.lit1 _ x) y40_ k40_ x41_ ?_)
     intro v8 w8 x8 x4;have x9:w8.ownsRow d.heap.size 3 1 v8 (out ++ [x]).length (ints (out ++ [x])):=by rw [List.length_append,xb];exact x8
     have x3:Below d.heap.size d w8:=(D.out.alloc xt _).grown x4 x41_ (fun i hi=>(World.ownsRow.lt E.out i hi).1);have xi:=hid x9;have xd:=hid x3;clear x8 x9 x4 x3;go_wp2
     go_roundw
     case rel=>exact ⟨k+1,out ++ [x],j41_,x5,M.out,V.out.1,xr.out,by rw [List.length_append];simp;omega,xi.out,xd.out⟩
     exact mz_
  ·have xs:k=s.length:=by omega
   subst xs;have xo:Hid (out=baseL I [] s):=hid (by rw [← g.out.1,List.drop_length,baseL]);have xp:=hid (Z0_ K.out (le_refl _) g.out.2.2.2.2.2);go_wp2;go_ret;exact ⟨_,rfl,by rw [← xo.out];exact Row.of_own g.out.2.2.2.2.1 rfl,xp.out⟩
end Go.Proofs.YtigobiacbficaaaGreatDoor.Wp
