/- The program's May, Rank and Indep, and the document's May, walked. Matroids written out in memory. -/
import Derived.Test.YtheeajnkiniopaaGreatDoorZW
import Derived.Test.YtheeajnkiniopaaGreatDoorZT
import Derived.Test.YtheeajnkiniopaaGreatDoorQTD
import Derived.Test.YtheeajnkiniopaaGreatDoorZA
import Derived.BigQuiet
import Derived.Deep.QuietTactic
import Derived.Test.YtheeajnkiniopaaGreatDoorX0A
import Derived.Test.YtheeajnkiniopaaGreatDoorX0B
set_option maxHeartbeats 4000000
set_option maxRecDepth 100000
open Go.Lib (hid)
open Nat (le_refl)
namespace Go.Proofs.YtheeajnkiniopaaGreatDoor.Wp
open Go.RowKit
def mayI (m:Mat) (s:List Int):Bool:=decide (chk m=0) && subB s (allL m.n)
noncomputable def rankT (m:Mat) (s:List Int):Int:=if mayI m s=true then (rkP 4 m (memP s):Nat) else -1
noncomputable def indT (m:Mat) (s:List Int):Bool:=decide (rankT m s=(s.length:Int))
theorem mayI_iff {m:Mat} {s:List Int}:mayI m s=true↔chk m=0∧InN (nN m) s:=by
 unfold mayI;rw [Bool.and_eq_true,decide_eq_true_iff];constructor
 ·rintro ⟨c,d⟩;exact ⟨c,(S2_ (chk_n c).1 (chk_n c).2).1 d⟩
 ·rintro ⟨c,d⟩;exact ⟨c,(S2_ (chk_n c).1 (chk_n c).2).2 d⟩
theorem Vx3 (m:Mat) (s:List Int):mayI m s=(decide (chk m=0) && okA m.n s):=by
 unfold mayI;by_cases h:chk m=0
 ·rw [S6_ (chk_n h).1 (chk_n h).2]
 ·rw [decide_eq_false h];rfl
theorem Zq1 (E:Nat→Addr) (m:Mat) (v z:Value) (s:List Int) (w:World) (k:MatV w w.heap.size v m) (hs:Sml m) (j:Row w w.heap.size z s) (I:s.length≤1048576) (r:Env E w):Calls Tryz.prog 42 #[v,z] w (Says w (mayI m s)):=by
 have p:=hid hs;obtain ⟨y,x,J,_,_⟩:=k.open;obtain ⟨L,cs,rfl,_⟩:=id j;have Hb0:=hid (Z1_ w m y x);have q:=hid (k.up Hb0.out);have B:=hid (j.up Hb0.out);have c:=hid (Z5_ w m y x);have g0:=c.out.cell 0;have g1:=c.out.cell 1;have g2:=c.out.cell 2;have g3:=c.out.cell 3;have g4:=c.out.cell 4;have g5:=c.out.cell 5;subst J;unfold boxed at *
 have o:=hid (r.up Hb0.out);obtain ⟨D,d⟩:∃ D,chk m=D:=⟨_,rfl⟩;have HD:=hid d;have H:=G7_ m.n;unfold mayI;rw [d];clear k hs j r d;by_cases h:D=0
 ·subst h
  rw [decide_eq_true rfl,Bool.true_and]
  go_enter Tryz.func42,Tryz.ntmps42
  go_wp2_with fail
  refine (C4_ E m _ _ q.out p.out o.out).mono ?_;rintro e w1 ⟨rfl,hb1⟩;rw [HD.out];have Hb1:=hid (Z0_ Hb0.out (le_refl _) hb1);have C:=hid (B.out.up hb1);have K:=(c.out.below hb1 c.out.lt).cell 1;clear hb1 g0 g1 g2 g3 g4 g5
  go_wp2_with fail
  refine (E8_ m.n _).mono ?_;rintro e O ⟨N,rfl,u,g⟩;have Hb2:=hid (Z0_ Hb1.out (le_refl _) g);have F:=hid (C.out.up g);have G:=hid u;clear g u K
  go_wp2_with fail
  refine (Zz3 _ _ s (allL m.n) _ F.out G.out I H).mono ?_;exact x5_
 ·rw [decide_eq_false h,Bool.false_and]
  have M:(D==0)=false:=y44_;clear h
  go_enter Tryz.func42,Tryz.ntmps42
  go_wp2_with fail
  refine (C4_ E m _ _ q.out p.out o.out).mono ?_;exact z39_
theorem P5_ (m:Mat) (v u:Value) (s:List Int) (w:World) (j:MatV w w.heap.size v m) (hs:Sml m) (g:Row w w.heap.size u s):Calls Tryz.prog 48 #[v,u] w (Says w (mayI m s)):=by
 have k:=hid hs;obtain ⟨r,q,z,_,_⟩:=j.open;obtain ⟨C,cs,rfl,_⟩:=id g;have Hb0:=hid (Z1_ w m r q);have o:=hid (j.up Hb0.out);have x:=hid (g.up Hb0.out);have c:=hid (Z5_ w m r q);have g0:=c.out.cell 0;have g1:=c.out.cell 1;have g2:=c.out.cell 2;have g3:=c.out.cell 3;have g4:=c.out.cell 4;have g5:=c.out.cell 5;subst z;unfold boxed at *
 obtain ⟨D,d⟩:∃ D,chk m=D:=⟨_,rfl⟩;have HD:=hid d;rw [Vx3,d];clear j hs g d;by_cases h:D=0
 ·subst h
  rw [decide_eq_true rfl,Bool.true_and]
  go_enter Tryz.func48,Tryz.ntmps48
  go_wp2_with fail
  refine (A1_ m _ _ o.out k.out).mono ?_;rintro e w1 ⟨rfl,hb1⟩;rw [HD.out];have Hb1:=hid (Z0_ Hb0.out (le_refl _) hb1);have y:=hid (x.out.up hb1);have B:=(c.out.below hb1 c.out.lt).cell 1;clear hb1 g0 g1 g2 g3 g4 g5
  go_wp2_with fail
  refine (D7_ _ s m.n _ y.out).mono ?_;rintro e F ⟨rfl,p⟩;have Hb2:=hid (Z0_ Hb1.out (le_refl _) p);clear p B;exact z2_
 ·rw [decide_eq_false h,Bool.false_and]
  have E:(D==0)=false:=y44_;clear h
  go_enter Tryz.func48,Tryz.ntmps48
  go_wp2_with fail
  refine (A1_ m _ _ o.out k.out).mono ?_;exact z39_
theorem Yv2 (E:Nat→Addr) (m:Mat) (v d:Value) (s:List Int) (w:World) (j:MatV w w.heap.size v m) (hs:Sml m) (h:Row w w.heap.size d s) (z:s.length≤1048576) (x:Env E w):Calls Tryz.prog 43 #[v,d] w (Tells w (rankT m s)):=by
 have r:=hid hs;obtain ⟨C,B,K,_,_⟩:=j.open;obtain ⟨M,cs,rfl,_⟩:=id h;have Hb0:=hid (Z1_ w m C B);have u:=hid (j.up Hb0.out);have q:=hid (h.up Hb0.out);have c:=hid (Z5_ w m C B);have g0:=c.out.cell 0;have g1:=c.out.cell 1;have g2:=c.out.cell 2;have g3:=c.out.cell 3;have g4:=c.out.cell 4;have g5:=c.out.cell 5;subst K;unfold boxed at *
 have k:=hid (x.up Hb0.out);unfold rankT;rcases hm:mayI m s with _ | _
 ·rw [if_neg q41_]
  have p:=hid hm;clear j hs h x hm
  go_enter Tryz.func43,Tryz.ntmps43
  go_wp2_with fail
  refine (Zq1 E m _ _ s _ u.out r.out q.out z k.out).mono ?_;rintro e L ⟨rfl,hb1⟩;rw [p.out];exact y31_
 ·rw [if_pos rfl]
  have p:=hid hm;have o:=hid (mayI_iff.1 hm);obtain ⟨R,y⟩:∃ R:Nat,rkP 4 m (memP s)=R:=⟨_,rfl⟩;have G:Hid (∀ (v d:Value) (W:World),MatV W W.heap.size v m→Row W W.heap.size d s→Env E W→Calls Tryz.prog 77 #[v,d] W (Tells W (R:Int))):=hid fun v d W I J h3=>by rw [← y];exact Yn3 E 4 m v d s W I r.out o.out.1 (chk_ok.1 o.out.1).1 J o.out.2 h3
  rw [y];clear j hs h x hm y
  go_enter Tryz.func43,Tryz.ntmps43
  go_wp2_with fail
  refine (Zq1 E m _ _ s _ u.out r.out q.out z k.out).mono ?_;rintro e L ⟨rfl,hb1⟩;rw [p.out];have Hb1:=hid (Z0_ Hb0.out (le_refl _) hb1);have F:=hid (q.out.up hb1);have H:=hid (u.out.up hb1);have D:=hid (k.out.up hb1);have g:=hid (c.out.below hb1 c.out.lt);clear hb1 g0 g1 g2 g3 g4 g5;have g0:=g.out.cell 0;have g1:=g.out.cell 1;have g2:=g.out.cell 2;have g3:=g.out.cell 3;have g4:=g.out.cell 4;have g5:=g.out.cell 5
  go_wp2_with fail
  refine (G.out _ _ _ H.out F.out D.out).mono ?_;rintro e N ⟨rfl,hb2⟩;exact z34_
theorem Xi1 (E:Nat→Addr) (m:Mat) (v x:Value) (s:List Int) (w:World) (o:MatV w w.heap.size v m) (hs:Sml m) (k:Row w w.heap.size x s) (N:s.length≤1048576) (p:Env E w):Calls Tryz.prog 118 #[v,x] w (Says w (indT m s)):=by
 have D:=hid hs;obtain ⟨u,r,O,_,_⟩:=o.open;obtain ⟨P,cs,rfl,_⟩:=id k;have d:=hid (Z1_ w m u r);have F:=hid (o.up d.out);have C:=hid (k.up d.out);have c:=hid (Z5_ w m u r);have G:=c.out.cell 0;have H:=c.out.cell 1;have I:=c.out.cell 2;have J:=c.out.cell 3;have K:=c.out.cell 4;have L:=c.out.cell 5;subst O;unfold boxed at *
 have y:=hid (p.up d.out);obtain ⟨R,h⟩:∃ R,rankT m s=R:=⟨_,rfl⟩;have z:=hid h;obtain ⟨g,j⟩:∃ g,indT m s=g:=⟨_,rfl⟩;have M:(R==(s.length:Int))=g:=by rw [← j,← h];unfold indT;rw [Bool.eq_iff_iff,beq_iff_eq,decide_eq_true_iff]
 rw [j];clear o hs k p h j
 go_enter Tryz.func118,Tryz.ntmps118
 go_wp2_with fail
 refine (Yv2 E m _ _ s _ F.out D.out C.out N y.out).mono ?_;rintro e Q ⟨rfl,q⟩;rw [z.out];have B:=hid (Z0_ d.out (le_refl _) q);clear q G H I J K L;go_wp2;go_ret;exact ⟨by rw [← M];rfl,B.out⟩
open Go.RowKit
theorem Xi2 {W d:World} {c c1 c2 c3 c4 c5:Value} {m:Mat} (hb:Blk d W.heap.size 37 #[c,c1,c2,c3,c4,c5]) (h:MatV d (W.heap.size+1) (.agg #[c,c1,c2,c3,c4,c5]) m) :
  MatL d (W.heap.size+1) (.slice (some ⟨W.heap.size,0,none⟩) 1 1) [m]:=by
 refine ⟨_,1,rfl,⟨le_refl _,q41_,fun e=>by cases e⟩,fun k f=>⟨⟨W.heap.size,0,none⟩,.agg #[c,c1,c2,c3,c4,c5],rfl,by show W.heap.size<_;omega,?_,?_⟩⟩
 ·match k,f with
  | 0,_=>exact ⟨c,c1,c2,c3,c4,c5,rfl,hb.cell 0,hb.cell 1,hb.cell 2,hb.cell 3,hb.cell 4,hb.cell 5⟩
 ·match k,f with
  | 0,_=>exact h
theorem Vx4 {W:World} {c c1 c2 c3 c4 c5:Value} {m:Mat} (h:MatV W W.heap.size (.agg #[c,c1,c2,c3,c4,c5]) m) :
  MatL (W.alloc (.cells #[c,c1,c2,c3,c4,c5] 37)) (W.heap.size+1) (.slice (some ⟨W.heap.size,0,none⟩) 1 1) [m] :=
 Xi2 (Blk.new W _ _) ((h.bel ((Below.refl _ W).alloc (le_refl _) _)).mono q40_)
theorem Xi3 (W:World) (B:Nat):Rows2 W B (.slice none 0 0) []:=⟨none,0,rfl,⟨le_refl _,q41_,fun _=>rfl⟩,fun k c=>absurd c z40_⟩
theorem Zf1 (W:World) (B:Nat) (t n a b:Int):MatV W B (.agg #[.int .i64 t,.int .i64 n,.int .i64 a,.int .i64 b,.slice none 0 0,.slice none 0 0]) (.mk t n a b [] []):=MatV.shut (Xi3 W B) (MatL.nil_ W B)
theorem W5_ (t n a b:Int):Sml (.mk t n a b [] []):=.mk z40_ z40_ z40_ z40_
open Go
theorem rk_of {m:Mat} (h:chk m=0):Rk (nN m) (rkP 4 m):=rk_ok 4 m h (chk_ok.1 h).1
theorem Vc7 (P Q:Nat→Bool):∀ n,cnt (orP P Q) n+cnt (andP P Q) n=cnt P n+cnt Q n
 | 0=>by simp [cnt]
 | n+1=>by
  have c:=Vc7 P Q n;rw [X4_,X4_,X4_,X4_];show _+(if (P n || Q n)=true then 1 else 0)+(_+(if (P n && Q n)=true then 1 else 0))=_;cases P n<;>cases Q n<;>simp<;>omega
open Go Go.RowKit
theorem Rk.closed {n:Nat} {f:(Nat→Bool)→Nat} (h:Rk n f) (P S:Nat→Bool) (hs:∀ x,x<n→S x=true→f (insP P x)=f P):∀ k,k≤n→f (addK P S k)=f P
 | 0,_=>by rw [G6_]
 | k+1,hk=>by
  have c:=h.closed P S hs k q40_;cases e:S k
  ·rw [R9_ e];exact c
  ·have d:=h.dim_add P S (x:=k) q40_ k q40_
   have g:=hs k q40_ e;have h3:=h.up' (addK P S k) (x:=k) q40_;rw [L4_ e];omega
theorem M2_ {m:Mat} {s:List Int} (h:mayI m s=true):indT m s=true↔rkP 4 m (memP s)=s.length:=by
 unfold indT;rw [show rankT m s=_ from if_pos h,decide_eq_true_iff];omega
theorem Vl5 {m:Mat} (h:chk m=0):indT m []=true:=by
 have c:mayI m []=true:=mayI_iff.2 ⟨h,Xd2 _⟩;rw [M2_ c,Zj4,(rk_ok 4 m h (chk_ok.1 h).1).zero];rfl
theorem Zp8 {x:Int} (h:0≤x) (P:Nat→Bool):orP P (memP [x])=insP P x.toNat:=by
 funext i
 unfold orP insP;have:memP [x] i=(i==x.toNat):=by rw [Bool.eq_iff_iff,memP_iff,beq_iff_eq,List.mem_singleton];omega
 rw [this,Bool.or_comm]
theorem Row.nth {w:World} {B:Nat} {A:Option Addr} {n c:Nat} {l:List Int} (h:Row w B (.slice A n c) l) {k:Nat} (hk:k<l.length):∃ ad,A=some ad∧∀ W,Below B w W→W.cell? (ad.add k)=some (.int .i64 (l.getD k 0)):=k13_
open Go.RowKit
def sameB (a b:List Int):Bool:=decide (a=b)
theorem Vx5 (K L:Value) (a b:List Int) (w:World) (ha:Row w w.heap.size K a) (hb:Row w w.heap.size L b) (X:a.length≤1048576) (_hlb:b.length≤1048576) :
  Calls Tryz.prog 15 #[K,L] w fun e w'=>e=.returned (.bool (sameB a b))∧∃ q,w'=w.drewN q:=by
 obtain ⟨A,S,rfl,_,D⟩:=ha;obtain ⟨R,T,rfl,_,E⟩:=hb;have p:=hid D;have r:=hid E;clear D E;by_cases hl:a.length=b.length
 ·have Q:((a.length:Int) != (b.length:Int))=false:=by rw [hl];simp
  have s:=hid hl;clear hl
  go_enter Tryz.func15,Tryz.ntmps15
  go_wp2
  go_loopw [5] (fun o wr=>∃ k q:Nat,o=.int .i64 k∧wr=w.drewN q∧k≤a.length∧a.take k=b.take k) (fun o _=>a.length - (intOf o).toNat)
  case atStart=>exact ⟨0,0,rfl,rfl,Nat.zero_le _,rfl⟩
  case round =>
   obtain ⟨k,q,rfl,J,W,I⟩:=hrel;have d:=hid J;clear J;have j:=hid I;clear I;by_cases G:k<a.length
   ·have H:k<b.length:=by have:=s.out;omega
    obtain ⟨M,O,_,B⟩:=p.out k G;obtain ⟨N,P,_,C⟩:=r.out k H;subst O P;have U:wr.cell? (M.add k)=some (.int .i64 (a.getD k 0)):=by rw [d.out];exact B
    have V:wr.cell? (N.add k)=some (.int .i64 (b.getD k 0)):=by rw [d.out];exact C
    have Z:(k:Int)<(a.length:Int):=q40_;have i2:(k:Int)<(b.length:Int):=q40_;have m:∀ l:List Int,k<l.length→l.take (k+1)=l.take k ++ [l.getD k 0]:=by
     intro l h;rw [List.take_succ_eq_append_getElem h];simp [List.getD,h]
    have u:=hid (m a G);have v:=hid (m b H);clear m B C p r;generalize a.getD k 0=x at *
    generalize b.getD k 0=y at *
    by_cases g:x=y
    ·subst g
     go_wp2
     go_quiet (fail)
     go_wp2
     go_roundw
     case rel=>exact ⟨k+1,q+nq,x41_,by rw [d.out,World.drewN_drewN],q40_,by rw [u.out,v.out,j.out]⟩
     exact mz_
    ·have Y:(x != y)=true:=by simpa using g
     have c:Hid (sameB a b=false):=by
      show sameB a b=false;unfold sameB;rw [decide_eq_false_iff_not];intro h;have z:a.take (k+1)=b.take (k+1):=by rw [h]
      rw [u.out,v.out,j.out] at z;have h3:=List.append_cancel_left z;simp at h3;exact g h3
     clear g;go_wp2
     go_quiet (fail)
     go_wp2;go_ret;refine ⟨?_,q+nq,by rw [d.out,World.drewN_drewN]⟩;rw [c.out];rfl
   ·have F:k=a.length:=by omega
    have c:Hid (sameB a b=true):=by
     show sameB a b=true;unfold sameB;rw [decide_eq_true_iff];have h:=j.out;rw [F,List.take_length] at h;rw [h,s.out,List.take_length]
    subst F;go_wp2;go_ret;refine ⟨?_,q,d.out⟩;rw [c.out];rfl
 ·have Q:((a.length:Int) != (b.length:Int))=true:=by
   rw [bne_iff_ne];omega
  have c:Hid (sameB a b=false):=by
   show sameB a b=false;unfold sameB;rw [decide_eq_false_iff_not];intro h;exact hl (by rw [h])
  clear hl
  go_enter Tryz.func15,Tryz.ntmps15
  go_wp2;go_ret;refine ⟨?_,0,rfl⟩;rw [c.out];rfl
theorem Xi4 (c d:Value) (a b:List Int) (w:World) (ha:Row w w.heap.size c a) (hb:Row w w.heap.size d b) (h:a.length≤1048576) (j:b.length≤1048576) :
  Calls Tryz.prog 15 #[c,d] w (Says w (sameB a b)) :=
 (Vx5 c d a b w ha hb h j).mono fun _ _ ⟨e,q,g⟩=>⟨e,by rw [g];exact Y2_ (Below.refl _ _) q⟩
theorem Xi5 (c d:Value) (a b:List Int) (w:World) (ha:Row w w.heap.size c a) (hb:Row w w.heap.size d b) (e:a.length≤1048576) (g:b.length≤1048576) {x:Bool} (h:sameB a b=x) :
  Calls Tryz.prog 15 #[c,d] w (Says w x):=by
 subst h;exact Xi4 c d a b w ha hb e g
open Go Go.RowKit
theorem Yf5 {w:World} {B:Nat} {v:Value} {zs:List Int} {p:Addr} (h:Row w B v zs) (m:∀ g,v.ownBlock=some g→g≠p.block) (u:Value):Row (w.setCell p u) B v zs:=by
 obtain ⟨A,c,rfl,j,e⟩:=h;refine ⟨A,c,rfl,j,fun k f=>?_⟩;obtain ⟨d,rfl,hb,hc⟩:=e k f;refine ⟨d,rfl,hb,?_⟩;rw [World.cell?_of_block (w:=w) (by rw [Z2_];exact Below.heap_setCell _ _ _ _ (m d.block rfl))];exact hc
structure AdjR (w:World) (G:Nat) (vs:List Value) (pp:List (List Int)):Prop where
 blk:Blk w G 23 vs.toArray
 len:vs.length=pp.length
 row:∀ k v,vs[k]?=some v→Row w w.heap.size v (pp.getD k [])∧∀ g,v.ownBlock=some g→G<g
section
variable {w w':World} {G i:Nat} {vs:List Value} {pp:List (List Int)}
theorem AdjR.up (h:AdjR w G vs pp) (hb:Below w.heap.size w w'):AdjR w' G vs pp:=⟨h.blk.below hb h.blk.lt,h.len,fun k v c=>⟨(h.row k v c).1.up hb,(h.row k v c).2⟩⟩
theorem AdjR.put {u:Value} {q:List Int} (h:AdjR w G vs pp) (m:Row w w.heap.size u q) (j:∀ g,u.ownBlock=some g→G<g):AdjR (w.setCell ⟨G,i,none⟩ u) G (vs.set i u) (pp.set i q):=by
 refine ⟨?_,by rw [List.length_set,List.length_set,h.len],fun k v c=>?_⟩
 ·have:=h.blk.set_ i u
  simpa using this
 ·rw [List.getElem?_set] at c
  have o:(w.setCell ⟨G,i,none⟩ u).heap.size=w.heap.size:=z40_;rw [o];split at c
  ·rename_i e
   subst e;split at c
   ·rename_i hlt
    cases c;refine ⟨?_,j⟩;rw [show (pp.set i q).getD i []=q by rw [List.getD_eq_getElem?_getD,List.getElem?_set_self (by rw [← h.len];exact hlt)];rfl];exact Yf5 m (fun g d e=>by have:=j g d;have e:g=G:=e;omega) u
   ·cases c
  ·rename_i e
   have f:=h.row k v c;refine ⟨?_,f.2⟩;rw [show (pp.set i q).getD k []=pp.getD k [] by rw [List.getD_eq_getElem?_getD,List.getElem?_set_ne e,← List.getD_eq_getElem?_getD]];exact Yf5 f.1 (fun g d e=>by have:=f.2 g d;have e:g=G:=e;omega) u
theorem AdjR.rows (h:AdjR w G vs pp) (hl:pp.length≤4096):Rows2 w w.heap.size (.slice (some ⟨G,0,none⟩) pp.length pp.length) pp:=by
 refine ⟨_,pp.length,rfl,⟨le_refl _,by unfold maxLen;omega,fun e=>by cases e⟩,fun k d=>?_⟩;have c:k<vs.length:=by rw [h.len];exact d
 refine ⟨⟨G,0,none⟩,vs[k],rfl,h.blk.lt,?_,?_⟩
 ·rw [show (⟨G,0,none⟩:Addr).add k=⟨G,k,none⟩ by unfold Addr.add;split<;>simp_all,h.blk.cell]
  simp [c]
 ·exact (h.row k _ (List.getElem?_eq_getElem c)).1
theorem AdjR.nth (h:AdjR w G vs pp) (e:i<pp.length):∃ (A:Option Addr) (c:Nat),w.cell? ⟨G,i,none⟩=some (.slice A (pp.getD i []).length c)∧w.frozen? ⟨G,i,none⟩=false:=by
 have d:i<vs.length:=by rw [h.len];exact e
 obtain ⟨A,c,f,_⟩:=(h.row i _ (List.getElem?_eq_getElem d)).1;refine ⟨A,c,?_,h.blk.frozen i⟩;rw [h.blk.cell,← f];simp [d]
theorem AdjR.made {n:Nat} (hb:Blk w G 23 (madeCells #[.slice none 0 0] n)):AdjR w G (List.replicate n (.slice none 0 0)) (List.replicate n []):=by
 have e:(madeCells #[Value.slice none 0 0] n)=(List.replicate n (Value.slice none 0 0)).toArray:=by
  unfold madeCells;apply Array.ext';refine List.ext_getElem? fun j=>?_;by_cases d:j<n
  ·simp [d,Nat.mod_one]
  ·simp [d]
 refine ⟨by rw [← e];exact hb,by rw [List.length_replicate,List.length_replicate],fun k v c=>?_⟩;rw [List.getElem?_replicate] at c;split at c
 ·cases c
  refine ⟨?_,fun g f=>by cases f⟩;rw [List.getD_eq_getElem?_getD,List.getElem?_replicate];split<;>exact Row.nil_ _ _
 ·cases c
end
end Go.Proofs.YtheeajnkiniopaaGreatDoor.Wp
