/- The program's May and Graph of layer 13, walked (VGraph). -/
import Derived.Test.YtnaebbjodfnooaaGreatDoorVI10C
import Derived.Test.YtnaebbjodfnooaaGreatDoorZR
import Derived.Test.YtnaebbjodfnooaaGreatDoorZW
import Derived.Test.YtnaebbjodfnooaaGreatDoorVGr3
import Derived.Deep.DeepCutAuto
import Derived.Deep.AppendLies
import Derived.Deep.RegionHeld3
import Derived.Test.YtnaebbjodfnooaaGreatDoorIUnion
import Derived.Test.YtnaebbjodfnooaaGreatDoorX0A
import Derived.Test.YtnaebbjodfnooaaGreatDoorX0C
set_option maxHeartbeats 16000000
set_option maxRecDepth 100000
open Go.Lib (hid)
open Nat (le_refl)
namespace Go.Proofs.YtnaebbjodfnooaaGreatDoor.Wp
open Go Go.RowKit
noncomputable def mayS (a b:Mat) (s:List Int):Bool:=decide (a.n=b.n) && (indT a s && indT b s)
theorem mayS_iff {a b:Mat} {s:List Int}:mayS a b s=true↔Common a b s:=by
 unfold mayS;rw [Bool.and_eq_true,Bool.and_eq_true,decide_eq_true_iff];exact ⟨fun h=>⟨h.1,h.2.1,h.2.2⟩,fun h=>⟨h.n,h.ia,h.ib⟩⟩
def Rows2F (w:World) (lo:Nat) (v:Value) (pp:List (List Int)):Prop :=
 ∃ A c,v=.slice A pp.length c∧(pp.length≤c∧c≤maxLen∧(A=none→c=0))∧∀ k,k<pp.length→∃ (ad:Addr) (u:Value),A=some ad∧lo≤ad.block∧ad.block<w.heap.size∧w.cell? (ad.add k)=some u∧Row w w.heap.size u (pp.getD k [])∧∀ g,u.ownBlock=some g→lo≤g
theorem Rows2F.rows {w:World} {lo:Nat} {v:Value} {pp:List (List Int)} (h:Rows2F w lo v pp):Rows2 w w.heap.size v pp:=by
 obtain ⟨A,c,m,g,e⟩:=h;refine ⟨A,c,m,g,fun k f=>?_⟩;obtain ⟨d,u,hA,_,hl,hc,j,_⟩:=e k f;exact ⟨d,u,hA,hl,hc,j⟩
theorem Rows2F.up {w w':World} {lo:Nat} {v:Value} {pp:List (List Int)} (h:Rows2F w lo v pp) (hb:Below w.heap.size w w'):Rows2F w' lo v pp:=by
 obtain ⟨A,c,p,m,g⟩:=h;refine ⟨A,c,p,m,fun k j=>?_⟩;obtain ⟨d,u,hA,e,hl,hc,o,f⟩:=g k j;exact ⟨d,u,hA,e,Nat.lt_of_lt_of_le hl hb.size,(hb.cell (by rw [Z2_];exact hl)).trans hc,o.up hb,f⟩
def Vv9 (w:World) (adj:List (List Int)) (f t:List Int) (e:Ending) (w':World):Prop:=∃ va vf vt,e=.returned (.tuple #[va,vf,vt,.int .i64 0])∧Rows2F w' w.heap.size va adj∧Row w' w'.heap.size vf f∧Row w' w'.heap.size vt t∧Below w.heap.size w w'∧(∀ g,vf.ownBlock=some g→w.heap.size≤g)∧∀ g,vt.ownBlock=some g→w.heap.size≤g
theorem Xi6 (E:Nat→Addr) (a b:Mat) (K L J:Value) (s:List Int) (w:World) (ha:MatV w w.heap.size K a) (hb:MatV w w.heap.size L b) (G:Sml a) (H:Sml b) (k:Row w w.heap.size J s) (I:s.length≤1048576) (m:Env E w) :
  Calls Tryz.prog 48 #[K,L,J] w (Says w (mayS a b s)):=by
 have x5:=hid ha;have x6:=hid hb;have U:=hid G;have V:=hid H;have x4:=hid m;have x8:=hid k;obtain ⟨la,ia,x2,Y,W⟩:=ha.open;obtain ⟨lb,ib,x3,Z,X⟩:=hb.open;obtain ⟨Al,cl,rfl,_⟩:=Y;obtain ⟨Ai,ci,rfl,_⟩:=W;obtain ⟨Bl,dl,rfl,_⟩:=Z;obtain ⟨Bi,di,rfl,_⟩:=X;obtain ⟨As,cs,x1,_⟩:=id k;subst x2 x3 x1;obtain ⟨j,hW2⟩:∃ j,j=(w.alloc (.cells #[.int .i64 a.t,.int .i64 a.n,.int .i64 a.a,.int .i64 a.b,.slice Al a.l.length cl,.slice Ai a.i.length ci] 25)).alloc (.cells #[.int .i64 b.t,.int .i64 b.n,.int .i64 b.a,.int .i64 b.b,.slice Bl b.l.length dl,.slice Bi b.i.length di] 25):=⟨_,rfl⟩;have u:=hid hW2;have d:Below w.heap.size w j:=by rw [hW2];exact ((Below.refl _ w).alloc (le_refl _) _).alloc j37_ _
 have C:Blk j w.heap.size 25 #[.int .i64 a.t,.int .i64 a.n,.int .i64 a.a,.int .i64 a.b,.slice Al a.l.length cl,.slice Ai a.i.length ci]:=j40_;have D:Blk j (w.heap.size+1) 25 #[.int .i64 b.t,.int .i64 b.n,.int .i64 b.a,.int .i64 b.b,.slice Bl b.l.length dl,.slice Bi b.i.length di]:=by
  rw [hW2];exact q4_
 have v:=hid d;have x7:=hid C;have z:=hid D;have M:=hid (ha.up d);have N:=hid (hb.up d);have r:=hid (k.up d);have q:=hid (m.up d);obtain ⟨x,o⟩:∃ x,indT a s=x:=⟨_,rfl⟩;obtain ⟨y,p⟩:∃ y,indT b s=y:=⟨_,rfl⟩;have R:=hid o;have S:=hid p;have F:mayS a b s=(decide (a.n=b.n) && (x && y)):=by unfold mayS;rw [o,p]
 rw [F];clear hW2 d C D ha hb G H k m o p F;by_cases h:a.n=b.n
 ·have x0:(a.n==b.n)=true:=by simpa using h
  rw [decide_eq_true h,Bool.true_and];clear h
  go_enter Tryz.func48,Tryz.ntmps48
  go_wp2_with fail
  rw [← u.out];refine (Ze9 E a _ _ s _ M.out U.out r.out I q.out).mono ?_;rintro e w3 ⟨rfl,g⟩;rw [R.out];have Hb3:=hid (Z0_ v.out (le_refl _) g);have c:=hid (z.out.below g z.out.lt);have O:=hid (N.out.up g);have Q:=hid (r.out.up g);have P:=hid (q.out.up g);clear g;cases x
  ·exact q6_
  ·have n0:=c.out.cell 0
   have n1:=c.out.cell 1;have n2:=c.out.cell 2;have n3:=c.out.cell 3;have n4:=c.out.cell 4;have n5:=c.out.cell 5
   go_wp2_with fail
   refine (Ze9 E b _ _ s _ O.out V.out Q.out I P.out).mono ?_;rintro e w4 ⟨rfl,B⟩;rw [S.out];have T:=hid (Z0_ Hb3.out (le_refl _) B);clear B n0 n1 n2 n3 n4 n5;go_wp2;go_ret;exact ⟨rfl,T.out⟩
 ·have x0:(a.n==b.n)=false:=by simpa using h
  rw [decide_eq_false h,Bool.false_and];clear h
  go_enter Tryz.func48,Tryz.ntmps48
  go_wp2;rw [← u.out];go_ret;exact ⟨rfl,v.out⟩
def set8 (w:World) (g:Nat) (c0 c1 c2 c3 c4 c5 c6 c7:Value):World:=(((((((w.setCell ⟨g,0,none⟩ c0).setCell ⟨g,1,none⟩ c1).setCell ⟨g,2,none⟩ c2).setCell ⟨g,3,none⟩ c3).setCell ⟨g,4,none⟩ c4).setCell ⟨g,5,none⟩ c5).setCell ⟨g,6,none⟩ c6).setCell ⟨g,7,none⟩ c7
theorem Zk6 (w:World) (g:Nat) (c c1 c2 c3 c4 c5 d e:Value):w.grownBy (set8 w g c c1 c2 c3 c4 c5 d e) (some g) :=
 V0_ (V0_ (V0_ (V0_ (V0_ (V0_ (V0_ (X2_ w g 0 c) (X2_ _ g 1 c1)) (X2_ _ g 2 c2)) (X2_ _ g 3 c3)) (X2_ _ g 4 c4)) (X2_ _ g 5 c5)) (X2_ _ g 6 d)) (X2_ _ g 7 e)
theorem Yo5 {w:World} {g:Nat} {t:TypeId} {f j k m o p q r:Value} (h:Blk w g t #[f,j,k,m,o,p,q,r]) (c c1 c2 c3 c4 c5 d e:Value):Blk (set8 w g c c1 c2 c3 c4 c5 d e) g t #[c,c1,c2,c3,c4,c5,d,e]:=by
 have h:=(((((((h.set_ 0 c).set_ 1 c1).set_ 2 c2).set_ 3 c3).set_ 4 c4).set_ 5 c5).set_ 6 d).set_ 7 e;unfold set8;exact j25_
theorem Zk7 {w0 w:World} {B g:Nat} (h:Below B w0 w) (c:B≤g) (d c1 c2 c3 c4 c5 e f:Value):Below B w0 (set8 w g d c1 c2 c3 c4 c5 e f) :=
 (((((((h.setCell (p:=⟨g,0,none⟩) c d).setCell (p:=⟨g,1,none⟩) c c1).setCell (p:=⟨g,2,none⟩) c c2).setCell (p:=⟨g,3,none⟩) c c3).setCell (p:=⟨g,4,none⟩) c c4).setCell (p:=⟨g,5,none⟩) c c5).setCell (p:=⟨g,6,none⟩) c e).setCell (p:=⟨g,7,none⟩) c f
theorem Zq2 {w:World} {g k:Nat} {t:TypeId} {cs:Array Value} (h:Blk w k t cs) (j:k≠g) (c c1 c2 c3 c4 c5 d f:Value):Blk (set8 w g c c1 c2 c3 c4 c5 d f) k t cs:=h.grown (Zk6 w g c c1 c2 c3 c4 c5 d f) (fun e=>j (Option.some.inj e))
theorem Vo0 {w:World} {base:Nat} {v:Value} {n:Nat} {j:List Value} (h:w.ownsRow base 3 1 v n j) {g:Nat} {t:TypeId} {cs:Array Value} (k:Blk w g t cs) (f : 3 ≠ t):v.ownBlock=none∨v.ownBlock≠some g:=by
 rcases h.2 with ⟨rfl,_⟩ | ⟨c,m,o,rfl,_,d,_⟩
 ·exact .inl rfl
 ·right
  intro e;have e:c=g:=by simpa [Value.ownBlock] using e
  subst e;unfold Blk at k;rw [d] at k;injection k with k;injection k with _ k;exact f k
theorem Zq3 {w:World} {base:Nat} {v:Value} {n:Nat} {f:List Value} (h:w.ownsRow base 3 1 v n f) {g:Nat} {t:TypeId} {cs:Array Value} (k:Blk w g t cs) (j : 3 ≠ t) (c c1 c2 c3 c4 c5 d e:Value):(set8 w g c c1 c2 c3 c4 c5 d e).ownsRow base 3 1 v n f:=h.kept (Zk6 w g c c1 c2 c3 c4 c5 d e) (Vo0 h k j)
structure AdjM (w:World) (G:Nat) (vs:List Value) (pp:List (List Int)):Prop where
 blk:Blk w G 26 vs.toArray
 fam:Fam w (G+1) vs pp
theorem AdjM.below {w w':World} {G:Nat} {c:List Value} {pp:List (List Int)} (h:AdjM w G c pp) (hb:Below w.heap.size w w'):AdjM w' G c pp:=⟨h.blk.below hb h.blk.lt,h.fam.bel hb⟩
theorem AdjM.rows {w:World} {G:Nat} {c:List Value} {pp:List (List Int)} (h:AdjM w G c pp) (hl:pp.length≤64):Rows2 w w.heap.size (.slice (some ⟨G,0,none⟩) pp.length pp.length) pp:=by
 refine ⟨_,pp.length,rfl,⟨le_refl _,by unfold maxLen;omega,fun e=>by cases e⟩,fun k hk=>?_⟩;have hkv:k<c.length:=by rw [h.fam.1];exact hk
 refine ⟨⟨G,0,none⟩,c[k],rfl,h.blk.lt,?_,?_⟩
 ·exact x19_
 ·have:=h.fam.2.1 k _ _ (List.getElem?_eq_getElem hkv) (List.getElem?_eq_getElem hk)
  exact z26_
theorem AdjM.rowsF {w:World} {G lo:Nat} {c:List Value} {pp:List (List Int)} (h:AdjM w G c pp) (hl:pp.length≤64) (d:lo≤G):Rows2F w lo (.slice (some ⟨G,0,none⟩) pp.length pp.length) pp:=by
 refine ⟨_,pp.length,rfl,⟨le_refl _,by unfold maxLen;omega,fun e=>by cases e⟩,fun k hk=>?_⟩;have hkv:k<c.length:=by rw [h.fam.1];exact hk
 have:=h.fam.2.1 k _ _ (List.getElem?_eq_getElem hkv) (List.getElem?_eq_getElem hk);refine ⟨⟨G,0,none⟩,c[k],rfl,d,h.blk.lt,?_,?_,fun g f=>by have:=(this.lt g f).1;omega⟩
 ·exact x19_
 ·exact z26_
theorem AdjM.at_ {w:World} {G:Nat} {j:List Value} {pp:List (List Int)} (h:AdjM w G j pp) {i:Nat} (hi:i<pp.length):∃ (A:Option Addr) (c:Nat),j[i]?=some (.slice A (pp.getD i []).length c)∧w.cell? ⟨G,i,none⟩=some (.slice A (pp.getD i []).length c)∧w.frozen? ⟨G,i,none⟩=false∧w.ownsRow (G+1) 3 1 (.slice A (pp.getD i []).length c) (pp.getD i []).length (ints (pp.getD i [])):=by
 have f:i<j.length:=by rw [h.fam.1];exact hi
 have g:=h.fam.2.1 i _ _ (List.getElem?_eq_getElem f) (List.getElem?_eq_getElem hi);obtain ⟨A,c,d⟩:=Q6_ g;have e:pp.getD i []=pp[i]:=by simp [List.getD,hi]
 rw [← e] at g d;refine ⟨A,c,by rw [List.getElem?_eq_getElem f,d],?_,h.blk.frozen i,by rw [← d];exact g⟩;rw [h.blk.cell];simp [f,d]
theorem AdjM.more {w f:World} {G i d g:Nat} {j:List Value} {pp:List (List Int)} {A:Option Addr} {c:Nat} {q:List Int} {x:Int} (h:AdjM w G j pp) (hi:j[i]?=some (.slice A q.length c))
  (D:f.ownsRow (G+1) 3 1 (.slice (some ⟨g,0,none⟩) (q.length+1) d) (q.length+1) (ints q ++ [.int .i64 x])) (m:(w.alloc (.cells #[.int .i64 x] 3)).grownBy f (Value.slice A q.length c).ownBlock) (u:(Value.slice A q.length c).ownBlock=some g∨g=w.heap.size+1) :
  AdjM (f.setCell ⟨G,i,none⟩ (.slice (some ⟨g,0,none⟩) (q.length+1) d)) G (j.set i (.slice (some ⟨g,0,none⟩) (q.length+1) d)) (pp.set i (q ++ [x]))∧Below G w (f.setCell ⟨G,i,none⟩ (.slice (some ⟨g,0,none⟩) (q.length+1) d)):=by
 have B:=(List.getElem?_eq_some_iff.1 hi).1;have C:i<pp.length:=by rw [← h.fam.1];exact B
 have s:=h.blk.lt;have E:=h.fam.2.1 i _ _ hi (List.getElem?_eq_getElem C);have r:∀ k,(Value.slice A q.length c).ownBlock=some k→G+1≤k:=fun k o=>(E.lt k o).1;have y:=h.fam.new (World.grownBy_alloc w (.cells #[.int .i64 x] 3) none);have z:=Fam.grow y hi m (q:=q ++ [x]) (by rw [List.length_append,show ints (q ++ [x])=ints q ++ [.int .i64 x] by simp [ints]];exact D) (by
  rcases u with e | e
  ·exact .inl e.symm
  ·exact .inr (by rw [e];simp [Value.ownBlock]))
 have v:Blk f G 26 j.toArray:=(h.blk.alloc _).grown m (fun e=>by have:=r G e.symm;omega);have F:=X2_ f G i (.slice (some ⟨g,0,none⟩) (q.length+1) d);refine ⟨⟨?_,z.apart F (Nat.lt_succ_self G)⟩,?_⟩
 ·have:=v.set_ i (.slice (some ⟨g,0,none⟩) (q.length+1) d)
  simpa using this
 ·exact (((Below.refl G w).alloc (Nat.le_of_lt s) (.cells #[.int .i64 x] 3)).grown m k37_ (fun k o=>by have:=r k o;omega)).setCell (p:=⟨G,i,none⟩) (le_refl _) _
def J5_ (F T:Int→Int→Bool) (L:List (Int × Int)) (p:Int):List Int:=L.flatMap fun e=>(if e.1=p∧F e.2 e.1=true then [e.2] else []) ++ (if e.2=p∧T e.2 e.1=true then [e.1] else [])
def J2_ (F T:Int→Int→Bool) (L:List (Int × Int)) (n:Nat):List (List Int):=(List.range n).map fun (i:Nat)=>J5_ F T L (i:Int)
theorem S7_ (F T:Int→Int→Bool) (L:List (Int × Int)) (n:Nat):(J2_ F T L n).length=n:=by simp [J2_]
theorem Xx0 {F T:Int→Int→Bool} {L:List (Int × Int)} {n i:Nat} (h:i<n):(J2_ F T L n).getD i []=J5_ F T L (i:Int):=by simp [J2_,List.getD,h]
theorem S8_ (F T:Int→Int→Bool) (L:List (Int × Int)) (y x p:Int):J5_ F T (L ++ [(y,x)]) p=J5_ F T L p ++ ((if y=p∧F x y=true then [x] else []) ++ (if x=p∧T x y=true then [y] else [])):=by
 unfold J5_;rw [List.flatMap_append];simp
theorem Ze5 {f g:Nat→List Int} {n i:Nat} (hi:i<n) (h:∀ k,k≠i→g k=f k):((List.range n).map f).set i (g i)=(List.range n).map g:=by
 refine List.ext_getElem? fun k=>?_;by_cases c:k=i
 ·subst c
  rw [List.getElem?_set_self j46_];simp [hi]
 ·rw [List.getElem?_set_ne (Ne.symm c)]
  by_cases d:k<n
  ·simp [d,h k c]
  ·rw [List.getElem?_eq_none (by simpa using Nat.le_of_not_lt d),List.getElem?_eq_none (by simpa using Nat.le_of_not_lt d)]
def A0_ (F T:Int→Int→Bool) (L:List (Int × Int)) (y x:Int) (n:Nat):List (List Int):=(List.range n).map fun (i:Nat)=>J5_ F T L (i:Int) ++ if y=(i:Int)∧F x y=true then [x] else []
theorem Vo1 {F T:Int→Int→Bool} {L:List (Int × Int)} {y x:Int} {n:Nat} (h:F x y=false):A0_ F T L y x n=J2_ F T L n:=by
 unfold A0_ J2_;refine List.map_congr_left fun i _=>?_;rw [if_neg (by rw [h];simp),List.append_nil]
theorem Vj0 {F T:Int→Int→Bool} {L:List (Int × Int)} {Y n:Nat} {x:Int} (c:Y<n) (h:F x (Y:Int)=true):(J2_ F T L n).set Y (J5_ F T L (Y:Int) ++ [x])=A0_ F T L (Y:Int) x n:=by
 have:=Ze5 (f:=fun i:Nat=>J5_ F T L (i:Int)) (g:=fun i:Nat=>J5_ F T L (i:Int) ++ if (Y:Int)=(i:Int)∧F x (Y:Int)=true then [x] else []) c (fun k d=>by rw [if_neg (fun e=>d x37_),List.append_nil]);rw [if_pos ⟨rfl,h⟩] at this;exact this
theorem Vo2 {F T:Int→Int→Bool} {L:List (Int × Int)} {y x:Int} {n i:Nat} (h:i<n):(A0_ F T L y x n).getD i []=J5_ F T L (i:Int) ++ if y=(i:Int)∧F x y=true then [x] else []:=by simp [A0_,List.getD,h]
theorem Yo6 (F T:Int→Int→Bool) (L:List (Int × Int)) (y x:Int) (n:Nat):(A0_ F T L y x n).length=n:=by simp [A0_]
theorem Xi7 {F T:Int→Int→Bool} {L:List (Int × Int)} {y x:Int} {n:Nat} (h:T x y=false):A0_ F T L y x n=J2_ F T (L ++ [(y,x)]) n:=by
 unfold A0_ J2_;refine List.map_congr_left fun i _=>?_;rw [S8_,if_neg (show ¬ (x=(i:Int)∧T x y=true) by rw [h];simp),List.append_nil]
theorem Yo7 {F T:Int→Int→Bool} {L:List (Int × Int)} {X n:Nat} {y:Int} (c:X<n) (j:y≠(X:Int)) (h:T (X:Int) y=true):(A0_ F T L y (X:Int) n).set X (J5_ F T L (X:Int) ++ [y])=J2_ F T (L ++ [(y,(X:Int))]) n:=by
 have:=Ze5 (f:=fun i:Nat=>J5_ F T L (i:Int) ++ if y=(i:Int)∧F (X:Int) y=true then [(X:Int)] else []) (g:=fun i:Nat=>J5_ F T (L ++ [(y,(X:Int))]) (i:Int)) c (fun k d=>by
  show J5_ F T (L ++ [(y,(X:Int))]) (k:Int)=_;rw [S8_,if_neg (show ¬ ((X:Int)=(k:Int)∧T (X:Int) y=true) from fun e=>d x37_),List.append_nil])
 rw [S8_,if_neg (show ¬ (y=(X:Int)∧F (X:Int) y=true) from fun e=>j e.1),if_pos ⟨rfl,h⟩,List.nil_append] at this;exact this
def A1_ (s o:List Int) (i j:Nat):List (Int × Int):=((s.take i).flatMap fun y=>o.map fun x=>(y,x)) ++ (o.take j).map fun x=>(s.getD i 0,x)
theorem Xx1 (s o:List Int):A1_ s o 0 0=[]:=by simp [A1_]
theorem Xx2 {s o:List Int} {i j:Nat} (c:j<o.length):A1_ s o i (j+1)=A1_ s o i j ++ [(s.getD i 0,o.getD j 0)]:=by
 unfold A1_;rw [List.take_succ_eq_append_getElem c,List.map_append,List.append_assoc,show o[j]=o.getD j 0 by simp [List.getD,c]];rfl
theorem Xx3 {s o:List Int} {i:Nat} (hi:i<s.length):A1_ s o i o.length=A1_ s o (i+1) 0:=by
 unfold A1_;rw [List.take_succ_eq_append_getElem hi,List.flatMap_append,List.take_length,show s[i]=s.getD i 0 by simp [List.getD,hi]];simp
theorem Vf4 {m:Mat} {s:List Int} (hc:chk m=0) (d:InN (nN m) s):((Z5_ (allL m.n) s).filter fun x=>indT m (Y3_ s [x]))=addG m s:=by
 have e:=chk_n hc;refine Zz8 ((D3_ e.1 e.2 d.1).1.1.filter _) ((B1_ (Y0_ hc).2).1.1) fun x=>?_;unfold addG;rw [List.mem_filter,List.mem_filter,Y4_ (F7_ m.n) d.1,K0_ e.1 x37_,mem_upTo,Bool.and_eq_true,Bool.not_eq_true',← Bool.not_eq_true,O2_ d.1];have:(nN m:Int)=m.n:=(Y0_ hc).1;constructor
 ·rintro ⟨⟨f,c⟩,h3⟩;exact ⟨⟨x37_,x37_⟩,c,h3⟩
 ·rintro ⟨f,c,h3⟩;exact ⟨⟨⟨x37_,x37_⟩,c⟩,h3⟩
theorem C8_ {α β:Type} {l:List α} {f g:α→List β} (h:∀ x∈l,f x=g x):l.flatMap f=l.flatMap g:=by
 rw [List.flatMap_def,List.flatMap_def,List.map_congr_left h]
theorem S9_ {p:Int} {g:List Int}:∀ {s:List Int},s.Nodup→p∈s→(s.flatMap fun y=>if y=p then g else [])=g
 | [],_,h=>by simp at h
 | a :: l,hn,h=>by
  obtain ⟨d,f⟩:=List.nodup_cons.1 hn;rw [List.flatMap_cons];by_cases e:a=p
  ·subst e
   rw [if_pos rfl];have:(l.flatMap fun y=>if y=a then g else [])=[]:=by
    rw [List.flatMap_eq_nil_iff];intro y j;rw [if_neg (fun e:y=a=>d (e▸j))]
   rw [this,List.append_nil]
  ·rw [if_neg e,List.nil_append]
   exact S9_ f ((List.mem_cons.1 h).resolve_left (fun c=>e c.symm))
theorem K1_ (P:Int→Bool):∀ s:List Int,(s.flatMap fun y=>if P y=true then [y] else [])=s.filter P
 | []=>rfl
 | a :: l=>by
  rw [List.flatMap_cons,K1_ P l,List.filter_cons];split<;>rfl
theorem Yv3 (F T:Int→Int→Bool) (s o:List Int) (p:Int):J5_ F T (A1_ s o s.length 0) p=s.flatMap fun y=>o.flatMap fun x=>(if y=p∧F x y=true then [x] else []) ++ (if x=p∧T x y=true then [y] else []):=by
 unfold J5_ A1_;rw [List.take_length,List.take_zero,List.map_nil,List.append_nil,List.flatMap_assoc];refine C8_ fun y _=>?_;rw [List.flatMap_map]
theorem Vo3 {F T:Int→Int→Bool} {s o:List Int} {p:Int} (hs:s.Nodup) (f:p∈s) (d:p∉o):J5_ F T (A1_ s o s.length 0) p=o.filter fun x=>F x p:=by
 rw [Yv3,← K1_,← S9_ (g:=o.flatMap fun x=>if F x p=true then [x] else []) hs f];refine C8_ fun y _=>?_;by_cases e:y=p
 ·subst e
  rw [if_pos rfl];refine C8_ fun x c=>?_;rw [if_neg (show ¬ (x=y∧T x y=true) from fun h=>d (h.1▸c)),List.append_nil];simp
 ·rw [if_neg e,List.flatMap_eq_nil_iff]
  intro x c;rw [if_neg (show ¬ (y=p∧F x y=true) from fun h=>e h.1),if_neg (show ¬ (x=p∧T x y=true) from fun h=>d (h.1▸c))];rfl
theorem Vj1 {F T:Int→Int→Bool} {s o:List Int} {p:Int} (c:o.Nodup) (d:p∈o) (f:p∉s):J5_ F T (A1_ s o s.length 0) p=s.filter fun y=>T p y:=by
 rw [Yv3,← K1_];refine C8_ fun y j=>?_;rw [← S9_ (g:=if T p y=true then [y] else []) c d];refine C8_ fun x _=>?_;rw [if_neg (show ¬ (y=p∧F x y=true) from fun h=>f (h.1▸j)),List.nil_append];by_cases e:x=p
 ·subst e;simp
 ·simp [e]
theorem Yv4 {s:List Int} (h:IsSet s):s.Nodup:=h.1.imp (fun h=>by omega)
theorem Yv5 {m:Mat} {s:List Int} (hi:indT m s=true) {x y:Int} (d:InN (nN m) [x]):(hasB (addG m s) x || indT m (Y3_ (Z5_ s [y]) [x]))=indT m (Y3_ (Z5_ s [y]) [x]):=by
 obtain ⟨hc,f⟩:=mayI_iff.1 (J7_ hi);cases h:hasB (addG m s) x with
 | false=>rfl
 | true =>
  rw [Bool.true_or];symm;have hA:InN (nN m) (addG m s):=B1_ (Y0_ hc).2;have e:=(O2_ hA.1 x).1 h;unfold addG at e;rw [List.mem_filter,Bool.and_eq_true] at e;have k:=A8_ f d;have g:∀ z∈Z5_ s [y],z∈s:=fun z c=>by
   unfold Z5_ partL at c;split at c
   ·exact (List.mem_filter.1 c).1
   ·simp at c
  have j:InN (nN m) (Z5_ s [y]):=⟨Q1_ _ _,fun z c=>f.2 z (g z c)⟩;refine Vq6 (mayI_iff.2 ⟨hc,k⟩) (mayI_iff.2 ⟨hc,A8_ j d⟩) (fun z c=>?_) e.2.2;rw [Q2_ (Q1_ _ _) d.1] at c;rw [Q2_ f.1 d.1];exact c.imp (g z) id
theorem Vo4 {a b:Mat} {s:List Int} (f:Common a b s):J2_ (fun x y=>hasB (addG a s) x || indT a (Y3_ (Z5_ s [y]) [x])) (fun x y=>hasB (addG b s) x || indT b (Y3_ (Z5_ s [y]) [x])) (A1_ s (Z5_ (allL a.n) s) s.length 0) (nN a)=adjG a b s:=by
 have c:=f.set;have j:=f.n64;have q:=(mayI_iff.1 (J7_ f.ia)).1;have m:=chk_n q;have v:(nN a:Int)=a.n:=(Y0_ q).1;have r:InN (nN a) (Z5_ (allL a.n) s):=D3_ m.1 m.2 c.1;have o:∀ x,x∈Z5_ (allL a.n) s↔(0≤x∧x<(nN a:Int))∧x∉s:=fun x=>by
  rw [Y4_ (F7_ a.n) c.1,K0_ m.1 x37_,v]
 unfold J2_ adjG upTo;rw [List.map_map];refine List.map_congr_left fun i hi=>?_;have hi:=List.mem_range.1 hi;show J5_ _ _ _ (i:Int)=arcsG a b s (i:Int);have u:nN b=nN a:=f.nn;by_cases e:(i:Int)∈s
 ·rw [Vo3 (Yv4 c.1) e (fun h=>((o _).1 h).2 e)]
  refine Zz8 (r.1.filter _).1 ((Zq7 j).filter _).1 fun x=>?_;rw [List.mem_filter,o];unfold arcsG;rw [List.mem_filter,mem_upTo];have k:R5_ b s (i:Int) x=false:=by
   unfold R5_;rw [(O2_ c.1 _).2 e];simp
  rw [k,Bool.or_false];unfold R5_;rw [(O2_ c.1 _).2 e,Bool.true_and,Bool.and_eq_true,Bool.not_eq_true',← Bool.not_eq_true,O2_ c.1];constructor
  ·rintro ⟨⟨d,g⟩,h3⟩
   have w:InN (nN a) [x]:=by
    obtain ⟨X,rfl⟩:∃ X:Nat,x=(X:Int):=⟨x.toNat,x37_⟩;exact Zl5 j x37_
   rw [Yv5 f.ia w] at h3;exact ⟨d,g,h3⟩
  ·rintro ⟨d,g,h3⟩
   refine ⟨⟨d,g⟩,?_⟩;rw [h3,Bool.or_true]
 ·rw [Vj1 (Yv4 r.1) ((o _).2 ⟨⟨x37_,x37_⟩,e⟩) e]
  refine Zz8 (c.1.filter _).1 ((Zq7 j).filter _).1 fun y=>?_;rw [List.mem_filter];unfold arcsG;rw [List.mem_filter,mem_upTo];have p:hasB s (i:Int)=false:=by rw [← Bool.not_eq_true,O2_ c.1];exact e
  have k:R5_ a s y (i:Int)=false:=by
   unfold R5_;rw [p,Bool.false_and]
  rw [k,Bool.false_or];unfold R5_;rw [p,Bool.not_false,Bool.true_and,Bool.and_eq_true,O2_ c.1,Yv5 f.ib (by rw [u];exact Zl5 j hi)];constructor
  ·rintro ⟨d,h3⟩
   have:=c.2 y d;exact ⟨this,d,h3⟩
  ·rintro ⟨d,g,h3⟩
   exact ⟨g,h3⟩
theorem Yg3 (w:World) (t:TypeId) (u:Value):∀ (j:Nat) (v:Value),[u][j]?=some v→(w.alloc (.cells #[u] t)).cell? ((⟨w.heap.size,0,none⟩:Addr).add j)=some v:=fun j v h=>by
 cases j with
 | zero =>
  have e:u=v:=y41_;rw [add_g,(Blk.new w t #[u]).cell,← e];rfl
 | succ j=>simp at h
theorem AdjM.fresh {w:World} {G n:Nat} {F T:Int→Int→Bool} (hb:Blk w G 26 (fillV (fun _=>undef) (.slice none 0 0) n 0)):∃ g,AdjM w G g (J2_ F T [] n):=by
 refine ⟨(List.range n).map fun i=>if i<0 then undef else .slice none 0 0,hb,by simp [J2_],fun i v p c f=>?_,fun i j v u c h _=>?_⟩
 ·have hi:=(List.getElem?_eq_some_iff.1 c).1
  rw [List.length_map,List.length_range] at hi;have d:v=.slice none 0 0:=by simpa [hi] using c.symm
  have e:p=[]:=by simpa [J2_,hi,J5_] using f.symm
  rw [d,e];exact World.ownsRow_nil _ _ _ _
 ·have hi:=(List.getElem?_eq_some_iff.1 c).1
  rw [List.length_map,List.length_range] at hi;have d:v=.slice none 0 0:=by simpa [hi] using c.symm
  rw [d];exact .inl rfl
theorem AdjM.mid {w f:World} {G i:Nat} {d:List Value} {pp:List (List Int)} {v:Value} (h:AdjM w G d pp) (hi:d[i]?=some v) (o:Obj) (j:(w.alloc o).grownBy f v.ownBlock):Blk f G 26 d.toArray∧Below G w f:=by
 have p:=(List.getElem?_eq_some_iff.1 hi).1;have q:i<pp.length:=by rw [← h.fam.1];exact p
 have m:=h.blk.lt;have r:=h.fam.2.1 i _ _ hi (List.getElem?_eq_getElem q);have g:∀ k,v.ownBlock=some k→G+1≤k:=fun k c=>(r.lt k c).1;exact ⟨(h.blk.alloc _).grown j (fun e=>by have:=g G e.symm;omega),((Below.refl G w).alloc (Nat.le_of_lt m) o).grown j k37_ (fun k c=>by have:=g k c;omega)⟩
theorem Zq4 (F T:Int→Int→Bool) (p:Int):∀ L:List (Int × Int),(J5_ F T L p).length≤2 * L.length
 | []=>by simp [J5_]
 | e :: L=>by
  have c:=Zq4 F T p L;unfold J5_ at c ⊢;rw [List.flatMap_cons,List.length_append,List.length_append,List.length_cons];have d:(if e.1=p∧F e.2 e.1=true then [e.2] else []).length≤1:=by split<;>simp
  have f:(if e.2=p∧T e.2 e.1=true then [e.1] else []).length≤1:=by split<;>simp
  omega
theorem Xi8 {s o:List Int} {i j:Nat} (hi:i≤64) (e:j≤64) (f:o.length≤64):(A1_ s o i j).length≤4160:=by
 have h:∀ t:List Int,(t.flatMap fun y=>o.map fun x=>(y,x)).length≤t.length * 64:=by
  intro t
  induction t with
  | nil=>simp
  | cons a t ih =>
   rw [List.flatMap_cons,List.length_append,List.length_map,List.length_cons];omega
 unfold A1_;rw [List.length_append,List.length_map,List.length_take];have c:=h (s.take i);rw [List.length_take] at c;have d:min i s.length≤64:=x37_;omega
theorem Jx4 {a:Mat} {s:List Int} (hc:chk a=0) (d:InN (nN a) s):s.length+(Z5_ (allL a.n) s).length=nN a:=by
 have c:=chk_n hc;have f:=X3_ (D3_ c.1 c.2 d.1);have g:=X3_ d;have h3:cnt (memP (Z5_ (allL a.n) s)) a.n.toNat=cnt (notP (memP s)) a.n.toNat:=V9_ fun i hi=>P4_ c.1 c.2 d.1 hi;have h:=Yl3 (memP s) (nN a);rw [f,h3,g];have e:nN a=a.n.toNat:=rfl;rw [e] at h ⊢;omega
theorem Zk8 {F T:Int→Int→Bool} {L:List (Int × Int)} {y:Int} {n X:Nat} (h:X<n) (c:y≠(X:Int)):(A0_ F T L y (X:Int) n).getD X []=J5_ F T L (X:Int):=by
 rw [Vo2 h,if_neg (fun e=>c e.1),List.append_nil]
theorem Yg4 (E:Nat→Addr) (a b:Mat) (va vb sv:Value) (s:List Int) (w:World) (ha:MatV w w.heap.size va a) (hb:MatV w w.heap.size vb b) (xp:Sml a) (xq:Sml b) (hr:Row w w.heap.size sv s) (hE:Env E w) (hC:Common a b s) :
  Calls Tryz.prog 29 #[va,vb,sv] w (Vv9 w (adjG a b s) (addG a s) (addG b s)):=by
 have hS:=hC.set;have uu:=hC.n64;have uv:=Y1_ hS;have xd:=(mayI_iff.1 (J7_ hC.ia)).1;have z6:=(mayI_iff.1 (J7_ hC.ib)).1;have yc:=chk_n xd;have xo:InN (nN a) (Z5_ (allL a.n) s):=D3_ yc.1 yc.2 hS.1;have zg:=Y1_ xo;have HM:Hid (∀ (va vb sv:Value) (W:World),MatV W W.heap.size va a→MatV W W.heap.size vb b→Row W W.heap.size sv s→Env E W→Calls Tryz.prog 48 #[va,vb,sv] W (Says W true)):=hid fun va vb sv W S h2 h3 h4=>by rw [← mayS_iff.2 hC];exact Xi6 E a b va vb sv s W S h2 xp xq h3 x37_ h4
 obtain ⟨la,ia,ux,ur,ul⟩:=ha.open;obtain ⟨lb,ib,uy,us,um⟩:=hb.open;obtain ⟨Al,cl,rfl,_⟩:=ur;obtain ⟨Ai,ci,rfl,_⟩:=ul;obtain ⟨Bl,dl,rfl,_⟩:=us;obtain ⟨Bi,di,rfl,_⟩:=um;obtain ⟨k,cs,uw,_⟩:=id hr;subst ux uy uw;obtain ⟨o,ho⟩:∃ o,Z5_ (allL a.n) s=o:=⟨_,rfl⟩;have ze:Z5_ (allL b.n) s=o:=by rw [← hC.n];exact ho
 rw [ho] at zg xo;have xw:Hid (∀ W,MatV W W.heap.size (.agg #[.int .i64 a.t,.int .i64 a.n,.int .i64 a.a,.int .i64 a.b,.slice Al a.l.length cl,.slice Ai a.i.length ci]) a→Row W W.heap.size (.slice k s.length cs) s→Env E W→Calls Tryz.prog 49 #[.agg #[.int .i64 a.t,.int .i64 a.n,.int .i64 a.a,.int .i64 a.b,.slice Al a.l.length cl,.slice Ai a.i.length ci],.slice k s.length cs] W (W6_ W (.int .i64 a.t) (.int .i64 a.n) (.int .i64 a.a) (.int .i64 a.b) (.slice Al a.l.length cl) (.slice Ai a.i.length ci) (.slice k s.length cs) (addG a s))):=hid fun W S h2 h3=>by
  have h:=Zl9 E a Al Ai _ _ _ _ _ s W S xp h2 x37_ (by rw [ho];omega) h3;rw [Vf4 xd hS] at h;exact h
 have xx:Hid (∀ W,MatV W W.heap.size (.agg #[.int .i64 b.t,.int .i64 b.n,.int .i64 b.a,.int .i64 b.b,.slice Bl b.l.length dl,.slice Bi b.i.length di]) b→Row W W.heap.size (.slice k s.length cs) s→Env E W→Calls Tryz.prog 49 #[.agg #[.int .i64 b.t,.int .i64 b.n,.int .i64 b.a,.int .i64 b.b,.slice Bl b.l.length dl,.slice Bi b.i.length di],.slice k s.length cs] W (W6_ W (.int .i64 b.t) (.int .i64 b.n) (.int .i64 b.a) (.int .i64 b.b) (.slice Bl b.l.length dl) (.slice Bi b.i.length di) (.slice k s.length cs) (addG b s))):=hid fun W S h2 h3=>by
  have h:=Zl9 E b Bl Bi _ _ _ _ _ s W S xq h2 x37_ (by rw [ze];omega) h3;rw [Vf4 z6 (by rw [hC.nn];exact hS)] at h;exact h
 obtain ⟨Z,xf⟩:∃ Z,addG a s=Z:=⟨_,rfl⟩;obtain ⟨FB,xg⟩:∃ FB,addG b s=FB:=⟨_,rfl⟩;rw [xf] at xw;rw [xg] at xx;obtain ⟨W2,hW2⟩:∃ W2,W2=(w.alloc (.cells #[.int .i64 a.t,.int .i64 a.n,.int .i64 a.a,.int .i64 a.b,.slice Al a.l.length cl,.slice Ai a.i.length ci] 25)).alloc (.cells #[.int .i64 b.t,.int .i64 b.n,.int .i64 b.a,.int .i64 b.b,.slice Bl b.l.length dl,.slice Bi b.i.length di] 25):=⟨_,rfl⟩;have u7:=hid hW2;have xc:Below w.heap.size w W2:=by rw [hW2];exact ((Below.refl _ w).alloc (le_refl _) _).alloc j37_ _
 have zc:Blk W2 w.heap.size 25 #[.int .i64 a.t,.int .i64 a.n,.int .i64 a.a,.int .i64 a.b,.slice Al a.l.length cl,.slice Ai a.i.length ci]:=j40_;have zd:Blk W2 (w.heap.size+1) 25 #[.int .i64 b.t,.int .i64 b.n,.int .i64 b.a,.int .i64 b.b,.slice Bl b.l.length dl,.slice Bi b.i.length di]:=by
  rw [hW2];exact q4_
 have u9:=hid xc;have y0:=hid zc;have y1:=hid zd;have HA:=hid (ha.up xc);have x4:=hid (hb.up xc);have HR:=hid (hr.up xc);have HE:=hid (hE.up xc);have HC:=hid hC;have Ho:=hid ho;have yx:=hid xo;have xm:=hid hS;have yy:=hid xp;have yz:=hid xq;clear hW2 xc zc zd ha hb xp xq hr hE hC hS xd z6 yc xo ho ze
 go_enter Tryz.func29,Tryz.ntmps29
 go_wp2_with fail
 rw [← u7.out];refine (HM.out _ _ _ _ HA.out x4.out HR.out HE.out).mono ?_;rintro e C ⟨rfl,x3⟩;have xy:=hid (Z0_ u9.out (le_refl _) x3);have M:=hid (y0.out.below x3 y0.out.lt);have O:=hid (y1.out.below x3 y1.out.lt);replace HA:=hid (HA.out.up x3);replace x4:=hid (x4.out.up x3);replace HR:=hid (HR.out.up x3);replace HE:=hid (HE.out.up x3);clear x3 HM y0 y1;have K1:Hid (∀ W,Below C.heap.size C W→W.cell? ⟨w.heap.size,0,none⟩=some (.int .i64 a.t)∧W.cell? ⟨w.heap.size,1,none⟩=some (.int .i64 a.n)∧W.cell? ⟨w.heap.size,2,none⟩=some (.int .i64 a.a)∧W.cell? ⟨w.heap.size,3,none⟩=some (.int .i64 a.b)∧W.cell? ⟨w.heap.size,4,none⟩=some (.slice Al a.l.length cl)∧W.cell? ⟨w.heap.size,5,none⟩=some (.slice Ai a.i.length ci)∧W.cell? ⟨w.heap.size+1,0,none⟩=some (.int .i64 b.t)∧W.cell? ⟨w.heap.size+1,1,none⟩=some (.int .i64 b.n)∧W.cell? ⟨w.heap.size+1,2,none⟩=some (.int .i64 b.a)∧W.cell? ⟨w.heap.size+1,3,none⟩=some (.int .i64 b.b)∧W.cell? ⟨w.heap.size+1,4,none⟩=some (.slice Bl b.l.length dl)∧W.cell? ⟨w.heap.size+1,5,none⟩=some (.slice Bi b.i.length di)):=hid fun W d=>⟨(M.out.below d M.out.lt).cell 0,(M.out.below d M.out.lt).cell 1,(M.out.below d M.out.lt).cell 2,(M.out.below d M.out.lt).cell 3,(M.out.below d M.out.lt).cell 4,(M.out.below d M.out.lt).cell 5,(O.out.below d O.out.lt).cell 0,(O.out.below d O.out.lt).cell 1,(O.out.below d O.out.lt).cell 2,(O.out.below d O.out.lt).cell 3,(O.out.below d O.out.lt).cell 4,(O.out.below d O.out.lt).cell 5⟩;have x0:Hid (Below C.heap.size C C.drew):=hid (Below.refl _ _).drew;have zu:=hid x4.out
 go_upto_region 3 with fail
 go_cut [10,11] (fun v1 v2 wx=>∃ (P K:Nat) (D H:Option Addr) (nm G J I:Nat),v1=.pointer (some ⟨P,0,none⟩)∧v2=.pointer (some ⟨K,0,none⟩)∧Hid (P≠K∧C.heap.size≤P∧C.heap.size≤K∧Blk wx P 74 #[.int .i64 a.t,.int .i64 a.n,.int .i64 a.a,.int .i64 a.b,.slice Al a.l.length cl,.slice Ai a.i.length ci,.slice k s.length cs,.slice D nm G]∧Blk wx K 74 #[.int .i64 b.t,.int .i64 b.n,.int .i64 b.a,.int .i64 b.b,.slice Bl b.l.length dl,.slice Bi b.i.length di,.slice k s.length cs,.slice H J I]∧Row wx wx.heap.size (.slice D nm G) Z∧Row wx wx.heap.size (.slice H J I) FB∧Below C.heap.size C wx)∧Hid ((∀ g,(Value.slice D nm G).ownBlock=some g→C.heap.size≤g)∧∀ g,(Value.slice H J I).ownBlock=some g→C.heap.size≤g))
 case first =>
  refine Zy4 8 (ksG C.drew.heap.size (.int .i64 a.t) (.int .i64 a.n) (.int .i64 a.a) (.int .i64 a.b) (.slice Al a.l.length cl) (.slice Ai a.i.length ci) (.int .i64 b.t) (.int .i64 b.n) (.int .i64 b.a) (.int .i64 b.b) (.slice Bl b.l.length dl) (.slice Bi b.i.length di) (.slice k s.length cs) Z FB) frG y37_ y37_ (Jx1 (B1:=w.heap.size) (B2:=w.heap.size+1) ⟨rfl,rfl,rfl,?hK,?hA,?hB⟩) ?_
  case hK=>exact fun W d=>K1.out W (Z0_ x0.out (le_refl _) d)
  case hA=>exact fun W d=>xw.out W (HA.out.up (Z0_ x0.out (le_refl _) d)) (HR.out.up (Z0_ x0.out (le_refl _) d)) (HE.out.up (Z0_ x0.out (le_refl _) d))
  case hB=>exact fun W d=>xx.out W (x4.out.up (Z0_ x0.out (le_refl _) d)) (HR.out.up (Z0_ x0.out (le_refl _) d)) (HE.out.up (Z0_ x0.out (le_refl _) d))
  intro a' W d zl z9 zh x1 z4 y6;obtain ⟨P,y2,r⟩:∃ g,a'.tmps.getD 10 undef=.pointer (some ⟨g,0,none⟩)∧Blk W g 74 #[.int .i64 0,.int .i64 0,.int .i64 0,.int .i64 0,.slice none 0 0,.slice none 0 0,.slice none 0 0,.slice none 0 0]:=x1 6 10 q38_ y37_;obtain ⟨K,y3,B⟩:∃ g,a'.tmps.getD 11 undef=.pointer (some ⟨g,0,none⟩)∧Blk W g 74 #[.int .i64 0,.int .i64 0,.int .i64 0,.int .i64 0,.slice none 0 0,.slice none 0 0,.slice none 0 0,.slice none 0 0]:=x1 7 11 q38_ y37_;obtain ⟨D,nm,G,ue,oA⟩:∃ (A:Option Addr) (n c:Nat),a'.tmps.getD 25 undef=.agg #[.int .i64 a.t,.int .i64 a.n,.int .i64 a.a,.int .i64 a.b,.slice Al a.l.length cl,.slice Ai a.i.length ci,.slice k s.length cs,.slice A n c]∧W.ownsRow C.drew.heap.size 3 1 (.slice A n c) Z.length (ints Z):=x1 2 25 q38_ y37_;obtain ⟨H,J,I,uh,oB⟩:∃ (A:Option Addr) (n c:Nat),a'.tmps.getD 28 undef=.agg #[.int .i64 b.t,.int .i64 b.n,.int .i64 b.a,.int .i64 b.b,.slice Bl b.l.length dl,.slice Bi b.i.length di,.slice k s.length cs,.slice A n c]∧W.ownsRow C.drew.heap.size 3 1 (.slice A n c) FB.length (ints FB):=x1 5 28 q38_ y37_;have uc:a'.tmps.getD 23 undef=.agg #[.int .i64 a.t,.int .i64 a.n,.int .i64 a.a,.int .i64 a.b,.slice Al a.l.length cl,.slice Ai a.i.length ci]:=x1 0 23 q38_ y37_;have ud:a'.tmps.getD 24 undef=.slice k s.length cs:=x1 1 24 q38_ y37_;have uf:a'.tmps.getD 26 undef=.agg #[.int .i64 b.t,.int .i64 b.n,.int .i64 b.a,.int .i64 b.b,.slice Bl b.l.length dl,.slice Bi b.i.length di]:=x1 3 26 q38_ y37_;have ug:a'.tmps.getD 27 undef=.slice k s.length cs:=x1 4 27 q38_ y37_;have hne:P≠K:=z4 6 7 10 11 P K q38_ q38_ q38_ rfl rfl y37_ y37_ y2 y3;have za:=Vv5 (N:=84) [(10,.pointer (some ⟨P,0,none⟩)),(11,.pointer (some ⟨K,0,none⟩)),(23,.agg #[.int .i64 a.t,.int .i64 a.n,.int .i64 a.a,.int .i64 a.b,.slice Al a.l.length cl,.slice Ai a.i.length ci]),(24,.slice k s.length cs),(25,.agg #[.int .i64 a.t,.int .i64 a.n,.int .i64 a.a,.int .i64 a.b,.slice Al a.l.length cl,.slice Ai a.i.length ci,.slice k s.length cs,.slice D nm G]),(26,.agg #[.int .i64 b.t,.int .i64 b.n,.int .i64 b.a,.int .i64 b.b,.slice Bl b.l.length dl,.slice Bi b.i.length di]),(27,.slice k s.length cs),(28,.agg #[.int .i64 b.t,.int .i64 b.n,.int .i64 b.a,.int .i64 b.b,.slice Bl b.l.length dl,.slice Bi b.i.length di,.slice k s.length cs,.slice H J I])] rfl zl z9 zh y37_ (by
   intro p hp;simp only [List.mem_cons,List.not_mem_nil,or_false] at hp;rcases hp with rfl | rfl | rfl | rfl | rfl | rfl | rfl | rfl<;>assumption)
  have y8:C.heap.size≤P:=by
   obtain ⟨g,e,hg⟩:=y6 6 10 q38_ rfl y37_;rw [y2] at e;exact x24_
  have y9:C.heap.size≤K:=by
   obtain ⟨g,e,hg⟩:=y6 7 11 q38_ rfl y37_;rw [y3] at e;exact x24_
  have z2:Below C.heap.size C W:=Z0_ x0.out (le_refl _) d;have xh : 3 ≠ 74 := q38_;have zo:=Zq2 (Yo5 r (.int .i64 a.t) (.int .i64 a.n) (.int .i64 a.a) (.int .i64 a.b) (.slice Al a.l.length cl) (.slice Ai a.i.length ci) (.slice k s.length cs) (.slice D nm G)) hne (.int .i64 b.t) (.int .i64 b.n) (.int .i64 b.a) (.int .i64 b.b) (.slice Bl b.l.length dl) (.slice Bi b.i.length di) (.slice k s.length cs) (.slice H J I);have zp:=Yo5 (Zq2 B (Ne.symm hne) (.int .i64 a.t) (.int .i64 a.n) (.int .i64 a.a) (.int .i64 a.b) (.slice Al a.l.length cl) (.slice Ai a.i.length ci) (.slice k s.length cs) (.slice D nm G)) (.int .i64 b.t) (.int .i64 b.n) (.int .i64 b.a) (.int .i64 b.b) (.slice Bl b.l.length dl) (.slice Bi b.i.length di) (.slice k s.length cs) (.slice H J I);have zq:=Zq3 (Zq3 oA r xh (.int .i64 a.t) (.int .i64 a.n) (.int .i64 a.a) (.int .i64 a.b) (.slice Al a.l.length cl) (.slice Ai a.i.length ci) (.slice k s.length cs) (.slice D nm G)) (Zq2 B (Ne.symm hne) (.int .i64 a.t) (.int .i64 a.n) (.int .i64 a.a) (.int .i64 a.b) (.slice Al a.l.length cl) (.slice Ai a.i.length ci) (.slice k s.length cs) (.slice D nm G)) xh (.int .i64 b.t) (.int .i64 b.n) (.int .i64 b.a) (.int .i64 b.b) (.slice Bl b.l.length dl) (.slice Bi b.i.length di) (.slice k s.length cs) (.slice H J I);have zr:=Zq3 (Zq3 oB r xh (.int .i64 a.t) (.int .i64 a.n) (.int .i64 a.a) (.int .i64 a.b) (.slice Al a.l.length cl) (.slice Ai a.i.length ci) (.slice k s.length cs) (.slice D nm G)) (Zq2 B (Ne.symm hne) (.int .i64 a.t) (.int .i64 a.n) (.int .i64 a.a) (.int .i64 a.b) (.slice Al a.l.length cl) (.slice Ai a.i.length ci) (.slice k s.length cs) (.slice D nm G)) xh (.int .i64 b.t) (.int .i64 b.n) (.int .i64 b.a) (.int .i64 b.b) (.slice Bl b.l.length dl) (.slice Bi b.i.length di) (.slice k s.length cs) (.slice H J I);have z1:=Zk7 (Zk7 z2 y8 (.int .i64 a.t) (.int .i64 a.n) (.int .i64 a.a) (.int .i64 a.b) (.slice Al a.l.length cl) (.slice Ai a.i.length ci) (.slice k s.length cs) (.slice D nm G)) y9 (.int .i64 b.t) (.int .i64 b.n) (.int .i64 b.a) (.int .i64 b.b) (.slice Bl b.l.length dl) (.slice Bi b.i.length di) (.slice k s.length cs) (.slice H J I);have xl:Hid ((∀ g,(Value.slice D nm G).ownBlock=some g→C.heap.size≤g)∧∀ g,(Value.slice H J I).ownBlock=some g→C.heap.size≤g):=hid ⟨fun g hg=>(oA.lt g hg).1,fun g hg=>(oB.lt g hg).1⟩;have HF:=hid (And.intro hne (And.intro y8 (And.intro y9 (And.intro zo (And.intro zp (And.intro (Row.of_own zq rfl) (And.intro (Row.of_own zr rfl) z1)))))));have w4:=r.cell 0;have v6:=r.frozen 0;have wf:=B.cell 0;have vh:=B.frozen 0;have w8:=r.cell 1;have v7:=r.frozen 1;have wg:=B.cell 1;have vk:=B.frozen 1;have w9:=r.cell 2;have v9:=r.frozen 2;have wh:=B.cell 2;have vl:=B.frozen 2;have wa:=r.cell 3;have vc:=r.frozen 3;have wi:=B.cell 3;have vm:=B.frozen 3;have wb:=r.cell 4;have vd:=r.frozen 4;have wj:=B.cell 4;have vn:=B.frozen 4;have wc:=r.cell 5;have ve:=r.frozen 5;have wk:=B.cell 5;have vp:=B.frozen 5;have wd:=r.cell 6;have vf:=r.frozen 6;have wl:=B.cell 6;have vq:=B.frozen 6;have we:=r.cell 7;have vg:=r.frozen 7;have wm:=B.cell 7;have vr:=B.frozen 7;have vz:K≠P:=Ne.symm hne;clear zh x1 z4 zl z9 y2 y3 ue uh uc ud uf ug r B oA oB d y6 zo zp zq zr z1 y8 y9 z2 xh;rw [za];clear za;simp only [show List.range 84=[0,1,2,3,4,5,6,7,8,9,10,11,12,13,14,15,16,17,18,19,20,21,22,23,24,25,26,27,28,29,30,31,32,33,34,35,36,37,38,39,40,41,42,43,44,45,46,47,48,49,50,51,52,53,54,55,56,57,58,59,60,61,62,63,64,65,66,67,68,69,70,71,72,73,74,75,76,77,78,79,80,81,82,83] from by decide,List.map_cons,List.map_nil,List.lookup_cons,List.lookup_nil];go_simp;go_wp2
  go_meet
  exact ⟨P,K,D,H,nm,G,J,I,rfl,rfl,HF,xl⟩
 case rest =>
  obtain ⟨P,K,D,H,nm,G,J,I,rfl,rfl,HX,xl⟩:=hcut;have xa:=hid HX.out.2.2.2.2.2.2.2;have xu:=hid (HR.out.up xa.out);have yf:=hid (HA.out.up xa.out);have yh:=hid (x4.out.up xa.out);have yl:=hid (HE.out.up xa.out);have Q:=hid HX.out.2.2.2.1;have xz:=hid HX.out.2.2.2.2.1;have ym:=hid HX.out.2.2.2.2.2.1;have yo:=hid HX.out.2.2.2.2.2.2.1;have yu:=hid (Z0_ xy.out (le_refl _) xa.out);have zk:s.length≤1048576:=x37_;have n0:=Q.out.cell 0;have n1:=Q.out.cell 1;have n2:=Q.out.cell 2;have n3:=Q.out.cell 3;have n4:=Q.out.cell 4;have n5:=Q.out.cell 5;have n6:=Q.out.cell 6;have n7:=Q.out.cell 7;clear HX K1 xw xx x0 zu M O HA x4 HE xa HR
  go_wp2_with fail
  refine (Zv9 a.n _ _ _ _ _ _ _ s _ xu.out zk).mono ?_;rintro e w5 ⟨vo,rfl,ye,V⟩;rw [Ho.out] at ye;have yv:=hid (Z0_ yu.out (le_refl _) V);have u3:=hid ye;have xv:=hid (xu.out.up V);have yg:=hid (yf.out.up V);have yi:=hid (yh.out.up V);have xs:=hid (yl.out.up V);have xn:=hid (Q.out.below V Q.out.lt);have x6:=hid (xz.out.below V xz.out.lt);have yn:=hid (ym.out.up V);have yp:=hid (yo.out.up V);obtain ⟨Ao,co,rfl,_⟩:=ye;clear n0 n1 n2 n3 n4 n5 n6 n7 V xu yf yh yl Q xz ym yo yu;have xd:=(mayI_iff.1 (J7_ HC.out.ia)).1;obtain ⟨n,yd⟩:∃ n:Nat,nN a=n:=⟨_,rfl⟩;have hn:s.length+o.length=n:=by rw [← Ho.out,← yd];exact Jx4 xd xm.out
  rw [yd] at uu uv zg;have w0:IntKind.i64.wrap ((s.length:Int)+(o.length:Int))=(n:Int):=x38_;have ui:Z.length≤64:=by rw [← xf];exact Nat.le_trans (Y1_ (B1_ x37_)) x37_
  have uj:FB.length≤64:=by rw [← xg];exact Nat.le_trans (Y1_ (B1_ (by rw [HC.out.nn];omega))) (by rw [HC.out.nn];omega)
  obtain ⟨F,hF⟩:∃ F:Int→Int→Bool,F=fun x y=>hasB Z x || indT a (Y3_ (Z5_ s [y]) [x]):=⟨_,rfl⟩;obtain ⟨T,hT⟩:∃ T:Int→Int→Bool,T=fun x y=>hasB FB x || indT b (Y3_ (Z5_ s [y]) [x]):=⟨_,rfl⟩;have Hplain:Hid (J2_ F T (A1_ s o s.length 0) n=adjG a b s):=hid (by rw [hF,hT,← xf,← xg,← Ho.out,← yd];exact Vo4 HC.out);have u4:Hid (∀ W,Below w5.heap.size w5 W→∀ x y:Int,Calls Tryz.prog 51 #[.agg #[.int .i64 a.t,.int .i64 a.n,.int .i64 a.a,.int .i64 a.b,.slice Al a.l.length cl,.slice Ai a.i.length ci,.slice k s.length cs,.slice D nm G],.int .i64 x,.int .i64 y] W (Says W (F x y))):=hid fun W d x y=>by
   rw [hF];exact Zj0 E a _ _ _ _ _ _ _ _ s Z x y W (yg.out.up d) yy.out (xv.out.up d) (yn.out.up d) x37_ ui (xs.out.up d)
  have yr:Hid (∀ W,Below w5.heap.size w5 W→∀ x y:Int,Calls Tryz.prog 51 #[.agg #[.int .i64 b.t,.int .i64 b.n,.int .i64 b.a,.int .i64 b.b,.slice Bl b.l.length dl,.slice Bi b.i.length di,.slice k s.length cs,.slice H J I],.int .i64 x,.int .i64 y] W (Says W (T x y))):=hid fun W d x y=>by
   rw [hT];exact Zj0 E b _ _ _ _ _ _ _ _ s FB x y W (yi.out.up d) yz.out (xv.out.up d) (yp.out.up d) x37_ uj (xs.out.up d)
  have u5:Hid (∀ i,i<s.length→∃ Y:Nat,s.getD i 0=(Y:Int)∧Y<n∧(Y:Int)∈s):=hid fun i hi=>by
   have hm:s.getD i 0∈s:=by rw [show s.getD i 0=s[i] by simp [List.getD,hi]];exact List.getElem_mem hi
   have S:=xm.out.2 _ hm;exact ⟨(s.getD i 0).toNat,x37_,x37_,by rw [Int.toNat_of_nonneg S.1];exact hm⟩
  have u1:Hid (∀ j,j<o.length→∃ X:Nat,o.getD j 0=(X:Int)∧X<n∧(X:Int)∉s):=hid fun j hj=>by
   have hm:o.getD j 0∈o:=by rw [show o.getD j 0=o[j] by simp [List.getD,hj]];exact List.getElem_mem hj
   have S:=yx.out.2 _ hm;refine ⟨(o.getD j 0).toNat,x37_,x37_,?_⟩;rw [Int.toNat_of_nonneg S.1];rw [← Ho.out,Y4_ (F7_ _) xm.out.1] at hm;rw [← Ho.out];exact hm.2
  have zw:=hid xf;have zy:=hid xg;clear yg yi xs hF hT xf xg xd yy yz HC Ho xm yx zk;obtain ⟨i0,hi,uz,v0,hz2⟩:=info_parts Yd7;obtain ⟨k0,ki,kz0,kz1,kz2⟩:=info_parts info3
  go_wp2_with (at_make;refine wpList_make_full w5 rfl _ _ 22 rfl w5.heap.size 26 i0 (.slice none 0 0) 1 y37_ hi uz v0 .i64 .i64 _ _ n rfl rfl (by rfl) (by rfl) y45_ z38_ (le_refl _) ?_)
  intro w6 zi zb;obtain ⟨zs,zn⟩:=AdjM.fresh (F:=F) (T:=T) (Ym5 (z:=.slice none 0 0) rfl zi (fun _=>undef));have ys:Hid (AdjM w6 w5.heap.size zs (J2_ F T (A1_ s o 0 0) n)∧Below w5.heap.size w5 w6):=hid ⟨by rw [Xx1];exact zn,(Below.refl _ w5).grown zb (le_refl _) (fun i hi=>by cases hi)⟩;clear zi zb zn;go_wp2
  go_loopw [39] (fun vi wr=>∃ (i:Nat) (vs:List Value),vi=.int .i64 (i:Int)∧i≤s.length∧Hid (AdjM wr w5.heap.size vs (J2_ F T (A1_ s o i 0) n)∧Below w5.heap.size w5 wr)) (fun vi _=>s.length - (intOf vi).toNat)
  case atStart=>exact ⟨0,zs,rfl,Nat.zero_le _,ys⟩
  case round =>
   obtain ⟨i,vs,rfl,vx,U⟩:=hrel;clear ys;by_cases yb:i<s.length
   ·obtain ⟨v4,hA,z8⟩:=Row.nthV xv.out yb
    subst hA;have ut:(i:Int)<(s.length:Int):=x37_;have gs:=z8 wr U.out.2;obtain ⟨Y,hY,y4,z3⟩:∃ Y:Nat,s.getD i 0=(Y:Int)∧Y<n∧(Y:Int)∈s:=u5.out i yb;rw [hY] at gs;have u8:=hid hY;have u0:Hid (∀ j,j<o.length→∃ X:Nat,o.getD j 0=(X:Int)∧X<n∧(Y:Int)≠(X:Int)):=hid fun j hj=>by
     obtain ⟨X,S,h2,h3⟩:=u1.out j hj;exact ⟨X,S,h2,fun e=>h3 (e▸z3)⟩
    have vv:(Y:Int)<(n:Int):=x37_;have w2:IntKind.i64.wrap ((i:Int)+1)=(i:Int)+1:=x38_;have yt:=U;clear z8 hY z3 U;go_wp2
    go_loopw [45] (fun vj wr=>∃ (j:Nat) (vs:List Value),vj=.int .i64 (j:Int)∧j≤o.length∧Hid (AdjM wr w5.heap.size vs (J2_ F T (A1_ s o i j) n)∧Below w5.heap.size w5 wr)) (fun vj _=>o.length - (intOf vj).toNat)
    case atStart=>exact ⟨0,vs,rfl,Nat.zero_le _,yt⟩
    case round =>
     obtain ⟨j,zt,rfl,vy,x9⟩:=hrel;clear yt gs;by_cases ya:j<o.length
     ·obtain ⟨ao,hA,z7⟩:=Row.nthV u3.out ya
      subst hA;have uq:(j:Int)<(o.length:Int):=x37_;have gx:=z7 wr x9.out.2;obtain ⟨X,hX,hXn,hne⟩:∃ X:Nat,o.getD j 0=(X:Int)∧X<n∧(Y:Int)≠(X:Int):=u0.out j ya;rw [hX] at gx;have HL2:Hid (A1_ s o i (j+1)=A1_ s o i j ++ [((Y:Int),(X:Int))]):=hid (by rw [Xx2 ya,u8.out,hX]);have vt:(A1_ s o i j).length≤4160:=Xi8 x37_ x37_ x37_;have yq:=hid x9.out.1;have xi:=hid x9.out.2;clear x9;generalize A1_ s o i j=L at *
      have vu:(X:Int)<(n:Int):=x37_;have w1:IntKind.i64.wrap ((j:Int)+1)=(j:Int)+1:=x38_;have R:=hid (xn.out.below xi.out xn.out.lt);have n0:=R.out.cell 0;have n1:=R.out.cell 1;have n2:=R.out.cell 2;have n3:=R.out.cell 3;have n4:=R.out.cell 4;have n5:=R.out.cell 5;have n6:=R.out.cell 6;have n7:=R.out.cell 7;have yk:=hid (u4.out wr xi.out (X:Int) (Y:Int));clear z7 hX
      go_wp2_with fail
      refine yk.out.mono ?_;rintro e w7 ⟨rfl,y5⟩;have xb:=hid (yq.out.below y5);have x2:=hid (Z0_ xi.out (le_refl _) y5);clear y5 yq xi yk R gx n0 n1 n2 n3 n4 n5 n6 n7;rcases hf:F (X:Int) (Y:Int) with _ | _
      ·have x5:=hid xb.out
       rw [← Vo1 hf] at x5;have x8:=hid x2.out;have m:=hid (x6.out.below x2.out x6.out.lt);have m0:=m.out.cell 0;have m1:=m.out.cell 1;have m2:=m.out.cell 2;have m3:=m.out.cell 3;have m4:=m.out.cell 4;have m5:=m.out.cell 5;have m6:=m.out.cell 6;have m7:=m.out.cell 7;have xe:=hid (yr.out w7 x2.out (X:Int) (Y:Int))
       go_wp2_with fail
       refine xe.out.mono ?_;rintro e v3 ⟨rfl,x7⟩;have HM10:=hid (x5.out.below x7);have HB10:=hid (Z0_ x8.out (le_refl _) x7);clear x7 m0 m1 m2 m3 m4 m5 m6 m7 x5 x8 xb x2 xe m hf;exact x1_
      ·have z0:=xb.out.at_ (i:=Y) (by rw [S7_];exact y4)
       rw [Xx0 y4] at z0;obtain ⟨A8,c8,xr,gc,gf,zf⟩:=z0;have hql:(J5_ F T L (Y:Int)).length≤8320:=by have:=Zq4 F T (Y:Int) L;omega
       generalize hq:J5_ F T L (Y:Int)=q at *
       have zm:=x2.out.size;have yw:Hid ((J2_ F T L n).set Y (q ++ [(X:Int)])=A0_ F T L (Y:Int) (X:Int) n):=hid (by rw [← hq];exact Vj0 y4 hf);clear hq
       go_wp2_with (at_builtin;refine wpList_append_lies _ rfl _ _ 26 rfl (w5.heap.size+1) 3 k0 (.int .i64 0) 1 8 y37_ ki kz0 kz1 kz2 rfl q38_ _ q.length (ints q) rfl (zf.alloc _) _ 1 1 [.int .i64 (X:Int)] rfl rfl (Yg3 _ _ _) (by intro u hu;simp at hu;subst hu;rfl) q38_ z38_ x37_ (by simp;exact zm) _ rfl ?_)
       intro g8 v5 v8 zj y7 z5 _;have xt:=hid (AdjM.more xb.out xr zj y7 z5);have xk:=hid (AdjM.mid xb.out xr _ y7);have ua:v8.cell? ⟨w5.heap.size,Y,none⟩=some (.slice A8 q.length c8):=by rw [xk.out.1.cell];simpa using xr
       have ub:=xk.out.1.frozen Y;clear zj y7 z5;have x5:=hid (xt.out.1);rw [yw.out] at x5;have x8:=hid (x2.out.trans (xt.out.2));have yj:=hid (x2.out.trans (xk.out.2));have m:=hid (x6.out.below yj.out x6.out.lt);have m0:=m.out.cell 0;have m1:=m.out.cell 1;have m2:=m.out.cell 2;have m3:=m.out.cell 3;have m4:=m.out.cell 4;have m5:=m.out.cell 5;have m6:=m.out.cell 6;have m7:=m.out.cell 7;have uk:K≠w5.heap.size:=Nat.ne_of_lt x6.out.lt;have vw:w5.heap.size≠K:=Ne.symm uk;have xe:=hid (yr.out _ x8.out (X:Int) (Y:Int))
       go_wp2_with fail
       refine xe.out.mono ?_;rintro e v3 ⟨rfl,x7⟩;have HM10:=hid (x5.out.below x7);have HB10:=hid (Z0_ x8.out (le_refl _) x7);clear x7 m0 m1 m2 m3 m4 m5 m6 m7 x5 x8 xb x2 xe m hf xt xk yw yj ua ub gc gf zf hql zm xr;exact x1_
     ·have uo:j=o.length:=by omega
      have uq:¬ (j:Int)<(o.length:Int):=x37_;have u6:Hid (AdjM wr w5.heap.size zt (J2_ F T (A1_ s o (i+1) 0) n)∧Below w5.heap.size w5 wr):=hid (by
       rw [← Xx3 yb,← uo];exact x9.out)
      clear x9;go_wp2
      go_roundw
      case rel=>exact ⟨i+1,zt,y38_,x37_,u6⟩
      exact mz_
   ·have un:i=s.length:=by omega
    have ut:¬ (i:Int)<(s.length:Int):=x37_;have R:=hid (xn.out.below U.out.2 xn.out.lt);have m:=hid (x6.out.below U.out.2 x6.out.lt);have n7:=R.out.cell 7;have m7:=m.out.cell 7;have xj:Hid (Below wr.heap.size wr wr.drew):=hid (Below.refl _ _).drew;have u2:Hid (Rows2F wr.drew w.heap.size (.slice (some ⟨w5.heap.size,0,none⟩) n n) (adjG a b s)):=hid (by
     have h:=U.out.1.rowsF (lo:=w.heap.size) (by rw [S7_];omega) yv.out.size;rw [S7_,un,Hplain.out] at h;exact h.up xj.out)
    have zx:Hid (Row wr.drew wr.drew.heap.size (.slice D nm G) (addG a s)):=hid (by rw [zw.out];exact (yn.out.up U.out.2).up xj.out);have zz:Hid (Row wr.drew wr.drew.heap.size (.slice H J I) (addG b s)):=hid (by rw [zy.out];exact (yp.out.up U.out.2).up xj.out);have zv:=hid (Z0_ (Z0_ yv.out (le_refl _) U.out.2) (le_refl _) xj.out);clear U
    go_upto_region 18 with fail
    go_region
    all_goals
     go_wp2;refine bodyPost_ret (v:=.tuple #[.slice (some ⟨w5.heap.size,0,none⟩) n n,.slice D nm G,.slice H J I,.int .i64 0]) (by simp [results,Tryz.results29,go_sem]) rfl ?_;exact ⟨_,_,_,rfl,u2.out,zx.out,zz.out,zv.out,fun g hg=>Nat.le_trans xy.out.size (xl.out.1 g hg),fun g hg=>Nat.le_trans xy.out.size (xl.out.2 g hg)⟩
open Go Go.RowKit
structure Mdw (lo hi:Nat) (w w':World):Prop where
 os:w'.os=w.os
 tape:w'.tape=w.tape
 output:w'.output=w.output
 size:w.heap.size≤w'.heap.size
 low:∀ k,k<lo→w'.heap[k]?=w.heap[k]?
 high:∀ k,hi≤k→k<w.heap.size→w'.heap[k]?=w.heap[k]?
section
variable {lo hi:Nat} {w w':World}
theorem Mdw.refl (lo hi:Nat) (w:World):Mdw lo hi w w:=⟨rfl,rfl,rfl,le_refl _,fun _ _=>rfl,fun _ _ _=>rfl⟩
theorem Mdw.trans {a b c:World} (h:Mdw lo hi a b) (k:Mdw lo hi b c):Mdw lo hi a c :=
 ⟨k.os.trans h.os,k.tape.trans h.tape,k.output.trans h.output,Nat.le_trans h.size k.size,fun i hi=>(k.low i hi).trans (h.low i hi),fun i d e=>(k.high i d (Nat.lt_of_lt_of_le e h.size)).trans (h.high i d e)⟩
theorem Mdw.of_below (h:Below w.heap.size w w') (hl:lo≤w.heap.size):Mdw lo hi w w' :=
 ⟨h.os,h.tape,h.output,h.size,fun k c=>h.block k x37_,fun k _ c=>h.block k c⟩
theorem Mdw.next {a b c:World} (h:Mdw lo hi a b) (k:Below b.heap.size b c) (hl:lo≤a.heap.size):Mdw lo hi a c:=h.trans (.of_below k (Nat.le_trans hl h.size))
theorem Mdw.below (h:Mdw lo hi w w'):Below lo w w':=⟨h.os,h.tape,h.output,h.size,h.low⟩
theorem Mdw.setCell {a:World} (h:Mdw lo hi a w) {p:Addr} (d:lo≤p.block) (e:p.block<hi) (u:Value):Mdw lo hi a (w.setCell p u) :=
 h.trans ⟨rfl,rfl,rfl,q43_,fun k c=>Below.heap_setCell _ _ _ _ x37_,fun k c _=>Below.heap_setCell _ _ _ _ x37_⟩
theorem Mdw.own {base:Nat} {e:TypeId} {k n:Nat} {v:Value} {j:List Value} (m:Mdw lo hi w w') (h:w.ownsRow base e k v n j) (hb:hi≤base):w'.ownsRow base e k v n j:=by
 obtain ⟨q,c⟩:=h;refine ⟨q,?_⟩;rcases c with c | ⟨g,o,p,u,d,f,r⟩
 ·exact .inl c
 ·have s:g<w.heap.size:=L9_ f
  exact .inr ⟨g,o,p,u,d,by rw [m.high g (Nat.le_trans hb d) s];exact f,r⟩
theorem Mdw.blk {k:Nat} {t:TypeId} {cs:Array Value} (m:Mdw lo hi w w') (h:Blk w k t cs) (c:k<lo∨hi≤k):Blk w' k t cs:=by
 rcases c with c | c
 ·exact (m.low k c).trans h
 ·exact (m.high k c h.lt).trans h
theorem Mdw.cell (m:Mdw lo hi w w') {p:Addr} (c:hi≤p.block) (d:p.block<w.heap.size):w'.cell? p=w.cell? p:=World.cell?_of_block (w:=w) (m.high p.block c d)
theorem Mdw.row {v:Value} {zs:List Int} (m:Mdw lo hi w w') (h:Row w w.heap.size v zs) (f:∀ g,v.ownBlock=some g→hi≤g):Row w' w'.heap.size v zs:=by
 obtain ⟨A,c,rfl,p,j⟩:=h;refine ⟨A,c,rfl,p,fun k o=>?_⟩;obtain ⟨d,rfl,hb,hc⟩:=j k o;have e:hi≤d.block:=f _ rfl;exact ⟨d,rfl,Nat.lt_of_lt_of_le hb m.size,(m.cell (by rw [Z2_];exact e) (by rw [Z2_];exact hb)).trans hc⟩
theorem Mdw.rows {v:Value} {pp:List (List Int)} (m:Mdw lo hi w w') (h:Rows2F w hi v pp):Rows2F w' hi v pp:=by
 obtain ⟨A,c,q,o,g⟩:=h;refine ⟨A,c,q,o,fun k j=>?_⟩;obtain ⟨f,u,hA,d,hl,hc,p,e⟩:=g k j;exact ⟨f,u,hA,d,Nat.lt_of_lt_of_le hl m.size,(m.cell (by rw [Z2_];exact d) (by rw [Z2_];exact hl)).trans hc,m.row p e,e⟩
end
theorem Xi9 {w:World} {base g c n:Nat} {zs:List Int} (h:w.ownsRow base 3 1 (.slice (some ⟨g,0,none⟩) n c) n (ints zs)) (i:Nat) (z:Int):(w.setCell ⟨g,i,none⟩ (.int .i64 z)).ownsRow base 3 1 (.slice (some ⟨g,0,none⟩) n c) n (ints (zs.set i z)):=by
 have:=(h.stored i (.int .i64 z)).1
 rwa [show (ints zs).set i (.int .i64 z)=ints (zs.set i z) by unfold ints;rw [List.map_set]] at this
theorem K2_ {w:World} {base:Nat} {e:TypeId} {k n:Nat} {v:Value} {d:List Value} (h:w.ownsRow base e k v n d) {p:Addr} (s:∀ g,v.ownBlock=some g→g≠p.block) (u:Value):(w.setCell p u).ownsRow base e k v n d:=by
 obtain ⟨m,c⟩:=h;refine ⟨m,?_⟩;rcases c with c | ⟨g,f,j,rfl,o,q,r⟩
 ·exact .inl c
 ·exact .inr ⟨g,f,j,rfl,o,by rw [Below.heap_setCell _ _ _ _ (s g rfl)];exact q,r⟩
structure SpM (w:World) (lo hi p:Nat) (sv va vb:Value) (s A B:List Int):Prop where
 box:Blk w p 36 #[sv,va,vb]
 pl:lo≤p
 ph:p<hi
 hs:hi≤w.heap.size
 srow:Row w w.heap.size sv s
 sfar:∀ g,sv.ownBlock=some g→hi≤g
 aown:w.ownsRow lo 3 1 va A.length (ints A)
 bown:w.ownsRow lo 3 1 vb B.length (ints B)
 ahi:∀ g,va.ownBlock=some g→g<hi∧g≠p
 bhi:∀ g,vb.ownBlock=some g→g<hi∧g≠p
 ne:∀ g k,va.ownBlock=some g→vb.ownBlock=some k→g≠k
theorem SpM.up {w w':World} {lo hi p:Nat} {c d e:Value} {s A B:List Int} (h:SpM w lo hi p c d e s A B) (hb:Below w.heap.size w w'):SpM w' lo hi p c d e s A B :=
 ⟨h.box.below hb h.box.lt,h.pl,h.ph,Nat.le_trans h.hs hb.size,h.srow.up hb,h.sfar,D1_ h.aown hb,D1_ h.bown hb,h.ahi,h.bhi,h.ne⟩
theorem SpM.put {w:World} {lo hi p c d f j:Nat} {o:Value} {s X Y:List Int} (h:SpM w lo hi p o (.slice (some ⟨c,0,none⟩) X.length f) (.slice (some ⟨d,0,none⟩) Y.length j) s X Y) (z:lo≤c) (A:lo≤d) (i:Nat) (x y:Int) :
  SpM ((w.setCell ⟨c,i,none⟩ (.int .i64 x)).setCell ⟨d,i,none⟩ (.int .i64 y)) lo hi p o (.slice (some ⟨c,0,none⟩) X.length f) (.slice (some ⟨d,0,none⟩) Y.length j) s (X.set i x) (Y.set i y)∧Mdw lo hi w ((w.setCell ⟨c,i,none⟩ (.int .i64 x)).setCell ⟨d,i,none⟩ (.int .i64 y)):=by
 obtain ⟨q,r⟩:=h.ahi c rfl;obtain ⟨u,v⟩:=h.bhi d rfl;have k:=h.ne c d rfl rfl;have m:Mdw lo hi w ((w.setCell ⟨c,i,none⟩ (.int .i64 x)).setCell ⟨d,i,none⟩ (.int .i64 y)):=((Mdw.refl lo hi w).setCell (p:=⟨c,i,none⟩) z q _).setCell (p:=⟨d,i,none⟩) A u _;refine ⟨⟨(h.box.far (p:=⟨c,i,none⟩) (Ne.symm r) _).far (p:=⟨d,i,none⟩) (Ne.symm v) _,h.pl,h.ph,Nat.le_trans h.hs m.size,m.row h.srow h.sfar,h.sfar,?_,?_,h.ahi,h.bhi,h.ne⟩,m⟩
 ·rw [List.length_set]
  exact K2_ (Xi9 h.aown i x) (p:=⟨d,i,none⟩) (fun g e=>by cases e;exact k) _
 ·rw [List.length_set]
  exact Xi9 (K2_ h.bown (p:=⟨c,i,none⟩) (fun g e=>by cases e;exact Ne.symm k) _) i y
theorem Zk9 {w l:List Int} {k i:Nat} {d:Int} (hl:IsSet l) (f:k<l.length) (hi:l.getD k 0=(i:Int)) (m:i<w.length) :
  (V1_ w (l.take k) d).getD i 0=w.getD i 0∧V1_ w (l.take (k+1)) d=(V1_ w (l.take k) d).set i (w.getD i 0+d):=by
 have g:(i:Int)=l[k]:=by rw [← hi];simp [List.getD,f]
 have p:memP (l.take k) i=false:=by
  rw [← Bool.not_eq_true,memP_iff,g];intro o;obtain ⟨j,c,e⟩:=List.mem_iff_getElem.1 o;rw [List.length_take] at c;rw [List.getElem_take] at e;have:=List.pairwise_iff_getElem.1 hl.1 j k x37_ f x37_;omega
 refine ⟨by rw [Zq1 m,p];simp,?_⟩;refine List.ext_getElem? fun j=>?_;unfold V1_;rw [List.getElem?_set];by_cases c:j<w.length
 ·by_cases e:i=j
  ·subst e
   rw [if_pos rfl,if_pos (by simpa using c),List.getElem?_map,List.getElem?_range c,Option.map_some,if_pos (by rw [memP_iff,List.take_succ_eq_append_getElem f];exact List.mem_append.2 (.inr (List.mem_singleton.2 g)))]
  ·rw [if_neg e,List.getElem?_map,List.getElem?_map,List.getElem?_range c,Option.map_some,Option.map_some]
   congr 2;have:memP (l.take (k+1)) j=memP (l.take k) j:=by
    rw [Bool.eq_iff_iff,memP_iff,memP_iff,List.take_succ_eq_append_getElem f,List.mem_append,List.mem_singleton];exact ⟨fun h=>h.resolve_right fun q=>e x37_,.inl⟩
   rw [this]
 ·rw [List.getElem?_eq_none (by simpa using Nat.le_of_not_lt c),if_neg x37_,List.getElem?_eq_none (by simpa using Nat.le_of_not_lt c)]
theorem Zl0 (w:List Int) (d:Int):V1_ w [] d=w:=by
 refine List.ext_getElem? fun j=>?_;unfold V1_;by_cases c:j<w.length
 ·rw [List.getElem?_map,List.getElem?_range c,Option.map_some,List.getElem?_eq_getElem c]
  simp [memP,List.getD,c]
 ·rw [List.getElem?_eq_none (by simpa using Nat.le_of_not_lt c),List.getElem?_eq_none x37_]
theorem Xk0 {l:List Int} {i:Nat} (h:i<l.length):(ints l)[i]?=some (.int .i64 (l.getD i 0)):=by
 unfold ints;rw [List.getElem?_map,List.getElem?_eq_getElem h];simp [List.getD,h]
theorem Yv6 {w:World} {base n:Nat} {v:Value} {e:List Value} (h:w.ownsRow base 3 1 v n e) (j:0<n):∃ g c,v=.slice (some ⟨g,0,none⟩) n c∧base≤g:=by
 rcases h.2 with ⟨_,f⟩ | ⟨g,c,_,rfl,d,_⟩
 ·omega
 ·exact ⟨g,c,rfl,d⟩
theorem Xk1 (lo hi p:Nat) (F G I C:Value) (s A B l:List Int) (d:Int) (w:World) (h:SpM w lo hi p F G I s A B) (y:Row w w.heap.size C l) (T:∀ g,C.ownBlock=some g→hi≤g) (hs:IsSet l) (hl:∀ x∈l,0≤x∧x<(A.length:Int)) (R:B.length=A.length) (xd:l.length≤64)
  (W:∀ i,i<A.length→-9223372036854775808≤A.getD i 0 - d∧A.getD i 0 - d≤9223372036854775807∧-9223372036854775808≤B.getD i 0+d∧B.getD i 0+d≤9223372036854775807) :
  Calls Tryz.prog 36 #[.pointer (some ⟨p,0,none⟩),C,.int .i64 d] w fun e w'=>e=.returned (.tuple #[])∧SpM w' lo hi p F G I s (V1_ A l (-d)) (V1_ B l d)∧Mdw lo hi w w':=by
 have H:=hid h;have HR:=hid y;have Hf:=hid T;have M:=hid hs;have Hl:=hid hl;have Hw:=hid W;have K:=hid R;obtain ⟨Al,cl,rfl,_⟩:=id y;have xc:(l.length:Int)≤64:=x37_;clear h y T hs hl W R
 go_enter Tryz.func36,Tryz.ntmps36
 go_wp2
 go_loopw [10] (fun J wr=>∃ k:Nat,J=.int .i64 k∧k≤l.length∧SpM wr lo hi p F G I s (V1_ A (l.take k) (-d)) (V1_ B (l.take k) d)∧Mdw lo hi w wr) (fun J _=>l.length - (intOf J).toNat)
 case atStart=>exact ⟨0,rfl,Nat.zero_le _,by rw [List.take_zero,Zl0,Zl0];exact H.out,Mdw.refl _ _ _⟩
 case round =>
  obtain ⟨k,rfl,hk,V,u⟩:=hrel;have c:=hid V;have L:=hid u;have x2:=hid (u.row HR.out Hf.out);clear V u;by_cases o:k<l.length
  ·have xe:(k:Int)<(l.length:Int):=by omega
   obtain ⟨ad,hA,S⟩:=Row.nth x2.out o;subst hA;have g0:=S wr (Below.refl _ _);have Z:=Hl.out _ (Y9_ 0 o);obtain ⟨i,hi⟩:∃ i:Nat,l.getD k 0=(i:Int):=⟨(l.getD k 0).toNat,x37_⟩;rw [hi] at g0 Z;have r:i<A.length:=x37_;have D:=Zk9 (d:=-d) M.out o hi r;have E:=Zk9 (d:=d) M.out o hi (w:=B) (by rw [K.out];exact r);have x8:=Hw.out i r;have z:=U7_ A (l.take k) (-d);have q:=U7_ B (l.take k) d;rw [K.out] at q;obtain ⟨j,ca,x6,x3⟩:=Yv6 c.out.aown x37_;obtain ⟨m,cb,x7,x4⟩:=Yv6 c.out.bown x37_;have x0:=hid D.2;have x1:=hid E.2;have N:=D.1;have O:=E.1;clear D E S hi;generalize V1_ A (l.take k) (-d)=X at *
   generalize V1_ B (l.take k) d=Y at *
   generalize A.getD i 0=za at *
   generalize B.getD i 0=zb at *
   subst x6 x7;have P:i<X.length:=x37_;have Q:i<Y.length:=x37_;have qA:=(c.out.aown.cellAt i x37_).trans (Xk0 P);have qB:=(c.out.bown.cellAt i x37_).trans (Xk0 Q);have fA:=c.out.aown.frozenAt i;have fB:=c.out.bown.frozenAt i;rw [N] at qA;rw [O] at qB;have kA:=c.out.box.cell 1;have kB:=c.out.box.cell 2;have xg:j≠p:=(c.out.ahi j rfl).2;have xh:m≠p:=(c.out.bhi m rfl).2;have xf:j≠m:=c.out.ne j m rfl rfl;have x9:j<hi:=(c.out.ahi j rfl).1;have xa:m<hi:=(c.out.bhi m rfl).1;have HX:=hid z;have HY:=hid q;have w1:IntKind.i64.wrap (za - d)=za - d:=x38_;have w2:IntKind.i64.wrap (zb+d)=zb+d:=x38_;clear N O P Q x8 Z;rw [z] at kA;rw [q] at kB;have xb:(i:Int)<(A.length:Int):=x37_;clear z q;go_wp2
   go_roundw
   case rel =>
    have U:=c.out.put x3 x4 i (za - d) (zb+d);refine ⟨k+1,y38_,x37_,?_,L.out.trans U.2⟩;rw [x0.out,x1.out];have h1:=U.1;exact h1
   case measure=>simp [intOf];omega
  ·have x5:k=l.length:=by omega
   subst x5;rw [List.take_length] at c;go_wp2;refine bodyPost_end (v:=.tuple #[]) (by simp [results,Tryz.results36,go_sem]) rfl ?_;exact ⟨rfl,c.out,L.out⟩
open Go Go.RowKit
theorem Ze6 (ws l:List Int) (s:Value) (i B C:Nat) (w:World) (hB:B<w.heap.size) (G:C<w.heap.size) (hc:w.cell? ⟨B,0,none⟩=some s) (hd:w.cell? ⟨C,0,none⟩=some (.int .i64 (i:Int))) (g:Row w w.heap.size s ws) (hi:i<ws.length) (hl:∀ y∈l,0≤y∧y<(ws.length:Int)) :
  Yh0 w 54 #[.pointer (some ⟨B,0,none⟩),.pointer (some ⟨C,0,none⟩)] (fun y=>ws.getD i 0==wt ws y) l:=by
 intro y q W d;have r:=hl y q;obtain ⟨j,rfl⟩:∃ j:Nat,y=(j:Int):=⟨y.toNat,x37_⟩;obtain ⟨A,c,rfl,_⟩:=id g;have v:=(d.cell (p:=⟨B,0,none⟩) hB).trans hc;have E:=(d.cell (p:=⟨C,0,none⟩) G).trans hd;have J:(j:Int)<(ws.length:Int):=r.2;have I:(i:Int)<(ws.length:Int):=x37_;obtain ⟨h,hA,m⟩:=Row.nth g (k:=j) x37_;subst hA;have D:=m W d;obtain ⟨H,hA,o⟩:=Row.nth g hi;injection hA with hA;subst hA;have F:=o W d;show Calls Tryz.prog 54 #[.int .i64 (j:Int),.pointer (some ⟨B,0,none⟩),.pointer (some ⟨C,0,none⟩)] W fun e u=>e=.returned (.bool (ws.getD i 0==ws.getD j 0))∧Below W.heap.size W u;clear m o g hi q r hc hd hl;generalize ws.getD i 0=x at *
 generalize ws.getD j 0=z at *
 go_enter Tryz.func54,Tryz.ntmps54
 go_wp2
 go_region_held3 (fun W=>W.cell? ⟨B,0,none⟩=some (.slice (some h) ws.length c)∧W.cell? ⟨C,0,none⟩=some (.int .i64 (i:Int))∧W.cell? (h.add j)=some (.int .i64 z)∧W.cell? (h.add i)=some (.int .i64 x)) (exact ⟨v,E,D,F⟩) (fail)
 all_goals
  go_wp2;go_ret;exact ⟨rfl,(Below.refl _ _).drew⟩
theorem Yv7 (s A B l:List Int) (i:Nat):l.filter (fun y=>(if hasB s (i:Int)=true then A else B).getD i 0==wt (if hasB s (i:Int)=true then A else B) y)=l.filter fun y=>decide (gapG s A B (i:Int) y=0):=by
 refine List.filter_congr fun y _=>?_;unfold gapG;cases hasB s (i:Int)
 ·rw [if_neg q38_,if_neg q38_,Bool.eq_iff_iff,beq_iff_eq,decide_eq_true_iff]
  show B.getD i 0=_↔wt B y - B.getD (i:Int).toNat 0=0;rw [Int.toNat_natCast];omega
 ·rw [if_pos rfl,if_pos rfl,Bool.eq_iff_iff,beq_iff_eq,decide_eq_true_iff]
  show A.getD i 0=_↔A.getD (i:Int).toNat 0 - wt A y=0;rw [Int.toNat_natCast];omega
def UpTo (w:World) (G:Nat) (us:List Value) (pp:List (List Int)) (k:Nat):Prop :=
 Blk w G 26 us.toArray∧us.length=pp.length∧(∀ i,i<k→∃ u,us[i]?=some u∧Row w w.heap.size u (pp.getD i []))∧∀ i,k≤i→i<pp.length→us[i]?=some (.slice none 0 0)
theorem UpTo.start (w:World) (G:Nat) (pp:List (List Int)) (h:Blk w G 26 (madeCells #[.slice none 0 0] pp.length)):UpTo w G (List.replicate pp.length (.slice none 0 0)) pp 0:=by
 refine ⟨?_,j37_,fun i hi=>by omega,fun i _ hi=>by simp [hi]⟩;rw [← toList_madeCells_one];simpa using h
theorem UpTo.up {w w':World} {G k:Nat} {us:List Value} {pp:List (List Int)} (h:UpTo w G us pp k) (hb:Below w.heap.size w w'):UpTo w' G us pp k :=
 ⟨h.1.below hb h.1.lt,h.2.1,fun i hi=>by obtain ⟨u,c,d⟩:=h.2.2.1 i hi;exact ⟨u,c,d.up hb⟩,h.2.2.2⟩
theorem UpTo.put {w:World} {G k:Nat} {us:List Value} {pp:List (List Int)} (h:UpTo w G us pp k) (f:k<pp.length) {u:Value} (j:Row w w.heap.size u (pp.getD k [])):UpTo (w.setCell ⟨G,k,none⟩ u) G (us.set k u) pp (k+1):=by
 have hc:w.cell? ⟨G,k,none⟩=some (.slice none 0 0):=by
  rw [h.1.cell];simpa using h.2.2.2 k (le_refl _) f
 have g:(w.setCell ⟨G,k,none⟩ u).heap.size=w.heap.size:=q43_;refine ⟨?_,by rw [List.length_set];exact h.2.1,fun i hi=>?_,fun i d c=>?_⟩
 ·have:=h.1.set_ k u
  simpa using this
 ·by_cases e:i=k
  ·subst e
   exact ⟨u,by rw [List.getElem?_set_self (by rw [h.2.1];exact f)],by rw [g];exact j.storeS hc u⟩
  ·obtain ⟨v,d,c⟩:=h.2.2.1 i x37_
   have:=c.storeS hc u;rw [← g] at this;exact ⟨v,by rw [List.getElem?_set_ne (Ne.symm e)];exact d,this⟩
 ·rw [List.getElem?_set_ne x37_]
  exact h.2.2.2 i x37_ c
theorem UpTo.store {w:World} {G k:Nat} {us:List Value} {pp:List (List Int)} (h:UpTo w G us pp k) {p:Addr} (f:G≠p.block) {A:Option Addr} {n c:Nat} (hc:w.cell? p=some (.slice A n c)) (u:Value):UpTo (w.setCell p u) G us pp k:=by
 have g:(w.setCell p u).heap.size=w.heap.size:=q43_;exact ⟨h.1.far f u,h.2.1,fun i hi=>by obtain ⟨v,d,e⟩:=h.2.2.1 i hi;exact ⟨v,d,by rw [g];exact e.storeS hc u⟩,h.2.2.2⟩
theorem UpTo.rows {w:World} {G:Nat} {us:List Value} {pp:List (List Int)} (h:UpTo w G us pp pp.length) (hl:pp.length≤64):Rows2 w w.heap.size (.slice (some ⟨G,0,none⟩) pp.length pp.length) pp:=by
 refine ⟨_,pp.length,rfl,⟨le_refl _,by unfold maxLen;omega,fun e=>by cases e⟩,fun k f=>?_⟩;obtain ⟨u,c,d⟩:=h.2.2.1 k f;refine ⟨⟨G,0,none⟩,u,rfl,h.1.lt,?_,d⟩;rw [show (⟨G,0,none⟩:Addr).add k=⟨G,k,none⟩ by unfold Addr.add;split<;>simp_all,h.1.cell];simpa using c
theorem Xk2 (gv O S sv va vb:Value) (adj:List (List Int)) (s A B:List Int) (w:World) (hg:Rows2 w w.heap.size gv adj) (hs:Row w w.heap.size sv s) (ha:Row w w.heap.size va A) (hb:Row w w.heap.size vb B) (hd:DigP adj) (hn:adj.length≤64) (hA:A.length=adj.length) (hB:B.length=adj.length) (yh:s.length≤64) :
  Calls Tryz.prog 30 #[.agg #[gv,O,S],.agg #[sv,va,vb]] w fun e w'=>∃ v,e=.returned v∧Rows2 w' w'.heap.size v (N1_ s A B adj)∧Below w.heap.size w w':=by
 obtain ⟨E,G,rfl,ye,_⟩:=id hg;obtain ⟨V,cs,rfl,_⟩:=id hs;obtain ⟨J,N,rfl,_⟩:=id ha;obtain ⟨q,x,rfl,_⟩:=id hb;have yg:(adj.length:Int)≤64:=x37_;obtain ⟨X,hX⟩:∃ X,(w.alloc (.cells #[.slice E adj.length G,O,S] 56)).alloc (.cells #[.slice V s.length cs,.slice J A.length N,.slice q B.length x] 36)=X:=⟨_,rfl⟩;have HX:=hid hX;have y0:Below w.heap.size w X:=by rw [← hX];exact ((Below.refl _ w).alloc (le_refl _) _).alloc j37_ _
 have y8:=fun W=>run_make_row' 22 26 (.slice none 0 0) 24 Tryz.underlying22 Yd7 rfl .i64 .i64 adj.length x37_ x37_ W;have H:Blk X w.heap.size 56 #[.slice E adj.length G,O,S]:=z40_;have xp:Blk X (w.heap.size+1) 36 #[.slice V s.length cs,.slice J A.length N,.slice q B.length x]:=by
  rw [← hX];have:=Blk.new (w.alloc (.cells #[.slice E adj.length G,O,S] 56)) 36 #[.slice V s.length cs,.slice J A.length N,.slice q B.length x]
  rwa [show (w.alloc (.cells #[.slice E adj.length G,O,S] 56)).heap.size=w.heap.size+1 by simp] at this
 have y3:X.heap.size=w.heap.size+1+1:=by rw [← hX];simp
 obtain ⟨Y,hY⟩:∃ Y,X.alloc (.cells (madeCells #[.slice none 0 0] adj.length) 26)=Y:=⟨_,rfl⟩;have HY:=hid hY;have Q:Below X.heap.size X Y:=by rw [← hY];exact (Below.refl _ X).alloc (le_refl _) _
 have hG:Blk Y (w.heap.size+1+1) 26 (madeCells #[.slice none 0 0] adj.length):=by rw [← hY,← y3];exact Blk.new X _ _
 obtain ⟨pp,xd⟩:∃ pp,N1_ s A B adj=pp:=⟨_,rfl⟩;have xt:pp.length=adj.length:=by rw [← xd,O5_]
 have y6:Hid (∀ k,k<adj.length→(adj.getD k []).filter (fun y=>decide (gapG s A B (k:Int) y=0))=pp.getD k []):=hid fun k hk=>by rw [← xd,Zo9 hk]
 rw [xd];have HU:=hid (UpTo.start Y (w.heap.size+1+1) pp (by rw [xt];exact hG));have Hpl:=hid xt;have HG:=hid hg;have HS:=hid hs;have HA:=hid ha;have HB:=hid hb;have yb:=hid (H.below Q H.lt);have y5:=hid (xp.below Q xp.lt);have x7:=hid (Z0_ y0 (le_refl _) Q);have yd:w.heap.size+1+1<Y.heap.size:=hG.lt;have Hd:=hid hd;have xx:=hid hA;have xy:=hid hB;have q0:X.cell? ⟨w.heap.size,0,none⟩=some (.slice E adj.length G):=H.cell 0;rw [← hX] at q0;have q1:Y.cell? ⟨w.heap.size,0,none⟩=some (.slice E adj.length G):=(H.below Q H.lt).cell 0;clear hg hs ha hb hX y0 H xp hY Q hG hd hA hB y3 xd xt
 go_enter Tryz.func30,Tryz.ntmps30
 go_wp2_with fail
 rw [HX.out,HY.out];clear q0 q1 y8
 go_loopw [16] (fun vk wr=>∃ (k:Nat) (us:List Value),vk=.int .i64 k∧k≤adj.length∧UpTo wr (w.heap.size+1+1) us pp k∧Below (w.heap.size+1+1) Y wr) (fun vk _=>adj.length - (intOf vk).toNat)
 case atStart=>exact ⟨0,_,rfl,Nat.zero_le _,HU.out,Below.refl _ _⟩
 case round =>
  clear HU;obtain ⟨k,us,rfl,hk,y4,R⟩:=hrel;have xb:=hid y4;have x9:=hid R;have xw:Below w.heap.size w wr:=x7.out.trans (R.mono x37_);have xn:=hid xw;by_cases hlt:k<adj.length
  ·have yf:(k:Int)<(adj.length:Int):=by omega
   obtain ⟨ya,yc,y9,_,y1⟩:=id HG.out;obtain ⟨ad,u,hA,hab,hc,xu⟩:=y1 k hlt;cases y9;subst hA;have xs:=Hd.out.2 k;obtain ⟨Au,cu,rfl,_⟩:=id xu;have x2:=hid xu;have g1:=(xw.cell (p:=ad.add k) j38_).trans hc;have C:=hid (y5.out.below R x37_);have x1:=hid (y6.out k hlt);have k2:(wr.alloc (.cells #[.int .i64 (k:Int)] 3)).cell? ⟨w.heap.size+1,2,none⟩=some (.slice q B.length x):=(C.out.alloc _).cell 2;have yi:Y.heap.size≤wr.heap.size:=R.size;have xa:=hid xs;have yj:(adj.getD k []).length≤64:=by have:=Yg8 (n:=adj.length) (l:=adj.getD k []) xs;omega
   clear y1 hc xu hab y4 R xw xs;generalize adj.getD k []=r at *
   obtain ⟨Z,I⟩:∃ Z,(wr.alloc (.cells #[.int .i64 (k:Int)] 3)).alloc (.cells #[.slice q B.length x] 26)=Z:=⟨_,rfl⟩;have HZ:=hid I;have xr:Below wr.heap.size wr Z:=by rw [← I];exact ((Below.refl _ wr).alloc (le_refl _) _).alloc j37_ _
   have xq:Blk Z wr.heap.size 3 #[.int .i64 (k:Int)]:=by rw [← I];exact (Blk.new wr _ _).alloc _
   have xz:Blk Z (wr.heap.size+1) 26 #[.slice q B.length x]:=by
    rw [← I];have:=Blk.new (wr.alloc (.cells #[.int .i64 (k:Int)] 3)) 26 #[.slice q B.length x]
    rwa [show (wr.alloc (.cells #[.int .i64 (k:Int)] 3)).heap.size=wr.heap.size+1 by simp] at this
   have x4:=hid xq;have x6:=hid xz;have x8:=hid xr;have z0:Z.cell? ⟨w.heap.size+1,0,none⟩=some (.slice V s.length cs):=(C.out.below xr C.out.lt).cell 0;have z2:Z.cell? ⟨wr.heap.size,0,none⟩=some (.int .i64 (k:Int)):=xq.cell 0;rw [← I] at z0 z2;clear I xr xq xz;obtain ⟨hb,y2⟩:∃ hb,hasB s (k:Int)=hb:=⟨_,rfl⟩;have M:=hid y2;clear y2
   go_wp2_with fail
   rw [HZ.out];refine (Zs4 _ s (k:Int) Z (HS.out.up (Z0_ xn.out (le_refl _) x8.out)) x37_).mono ?_;rintro e w4 ⟨rfl,xc⟩;rw [M.out];have L:=hid (Z0_ x8.out (le_refl _) xc);have x5:=hid (x4.out.below xc x4.out.lt);have F:=hid (x6.out.below xc x6.out.lt);have xg:=hid (C.out.below L.out C.out.lt);have x3:=hid (xb.out.up L.out);have x0:=hid (Z0_ x9.out (by omega:w.heap.size+1+1≤Y.heap.size) L.out);clear xc k2 z0 z2 g1;cases hb with
   | false =>
    go_wp2;obtain ⟨d,j⟩:∃ d,d=w4:=⟨_,rfl⟩;rw [← j];have g:Hid (Blk d wr.heap.size 3 #[.int .i64 (k:Int)]):=hid (by rw [j];exact x5.out);have D:Hid (Blk d (wr.heap.size+1) 26 #[.slice q B.length x]):=hid (by rw [j];exact F.out);have xk:Hid (UpTo d (w.heap.size+1+1) us pp k):=hid (by rw [j];exact x3.out);have z:Hid (Below (w.heap.size+1+1) Y d):=hid (by rw [j];exact x0.out);have K:Hid (Below w.heap.size w d):=hid (x7.out.trans (z.out.mono x37_));clear j x5 F x3 x0 L xg x4 x6 x8 C xb x9 xn;have xi:=hid (x2.out.up K.out);have xm:=hid ((HB.out).up K.out);have xo:k<B.length:=by rw [xy.out];exact hlt
    have xh:Hid (r.filter (fun y=>B.getD k 0==wt B y)=pp.getD k []):=hid (by
     rw [← x1.out,← Yv7 s A B r k,M.out];rfl)
    have xf:Hid (∀ y∈r,0≤y∧y<(B.length:Int)):=hid (by rw [xy.out];exact xa.out.2);have c:=hid ((Below.refl d.heap.size d).drew);have xv:wr.heap.size+1<d.drew.heap.size:=D.out.lt;clear x2 HA HB HS x1 M xa
    go_region_held3 (fun W=>W.cell? ⟨wr.heap.size,0,none⟩=some (.int .i64 (k:Int))) (first | exact (g.out.below c.out g.out.lt).cell 0 | exact ((g.out.below c.out g.out.lt).far (p:=⟨w.heap.size+1+1,k,none⟩) (by show wr.heap.size≠w.heap.size+1+1;omega) _).cell 0) ((go_at_call 53;refine (Zs6 54 _ (fun y=>B.getD k 0==wt B y) _ r _ (enters_of Tryz.func54 y37_ rfl) (xi.out.up c.out) x37_ (Ze6 B r _ k (wr.heap.size+1) wr.heap.size _ xv x37_ ((D.out.below c.out D.out.lt).cell 0) ((g.out.below c.out g.out.lt).cell 0) (xm.out.up c.out) xo xf.out)).mono ?_;rintro e w6 ⟨v6,rfl,o,P⟩;rw [xh.out] at o;obtain ⟨A6,c6,rfl,_⟩:=id o;have xj:=hid o;replace c:=hid (Z0_ c.out (le_refl _) P);have m:=hid (xk.out.up c.out);have T:=m.out.1.cell k;have fk:=m.out.1.frozen k;have U:=m.out.2.2.2 k (le_refl _) y47_;rw [show (us.toArray)[k]?=us[k]? by simp,U] at T;clear o P U))
    all_goals
     have xl:=hid (m.out.put y47_ xj.out);have xe:=hid ((z.out.trans (c.out.mono (by have:=z.out.size;omega))).setCell (p:=⟨w.heap.size+1+1,k,none⟩) (le_refl _) (.slice A6 (pp.getD k []).length c6));clear T fk;go_wp2
     go_roundw
     case rel=>exact ⟨k+1,_,y38_,x37_,xl.out,xe.out⟩
     exact mz_
   | true =>
    have k1:=xg.out.cell 1;have f1:=F.out.frozen 0;have c1:=F.out.cell 0;go_wp2;obtain ⟨d,j⟩:∃ d,d=w4.setCell ⟨wr.heap.size+1,0,none⟩ (.slice J A.length N):=⟨_,rfl⟩;rw [← j];have g:Hid (Blk d wr.heap.size 3 #[.int .i64 (k:Int)]):=hid (by rw [j];exact x5.out.far (p:=⟨wr.heap.size+1,0,none⟩) j37_ _);have D:Hid (Blk d (wr.heap.size+1) 26 #[.slice J A.length N]):=hid (by rw [j];exact F.out.set_ 0 _);have xk:Hid (UpTo d (w.heap.size+1+1) us pp k):=hid (by rw [j];exact x3.out.store (p:=⟨wr.heap.size+1,0,none⟩) (by show w.heap.size+1+1≠wr.heap.size+1;omega) c1 _);have z:Hid (Below (w.heap.size+1+1) Y d):=hid (by rw [j];exact x0.out.setCell (p:=⟨wr.heap.size+1,0,none⟩) (by show w.heap.size+1+1≤wr.heap.size+1;omega) _);have K:Hid (Below w.heap.size w d):=hid (x7.out.trans (z.out.mono x37_));clear j x5 F x3 x0 L xg x4 x6 x8 C xb x9 xn k1 f1 c1;have xi:=hid (x2.out.up K.out);have xm:=hid ((HA.out).up K.out);have xo:k<A.length:=by rw [xx.out];exact hlt
    have xh:Hid (r.filter (fun y=>A.getD k 0==wt A y)=pp.getD k []):=hid (by
     rw [← x1.out,← Yv7 s A B r k,M.out];rfl)
    have xf:Hid (∀ y∈r,0≤y∧y<(A.length:Int)):=hid (by rw [xx.out];exact xa.out.2);have c:=hid ((Below.refl d.heap.size d).drew);have xv:wr.heap.size+1<d.drew.heap.size:=D.out.lt;clear x2 HA HB HS x1 M xa
    go_region_held3 (fun W=>W.cell? ⟨wr.heap.size,0,none⟩=some (.int .i64 (k:Int))) (first | exact (g.out.below c.out g.out.lt).cell 0 | exact ((g.out.below c.out g.out.lt).far (p:=⟨w.heap.size+1+1,k,none⟩) (by show wr.heap.size≠w.heap.size+1+1;omega) _).cell 0) ((go_at_call 53;refine (Zs6 54 _ (fun y=>A.getD k 0==wt A y) _ r _ (enters_of Tryz.func54 y37_ rfl) (xi.out.up c.out) x37_ (Ze6 A r _ k (wr.heap.size+1) wr.heap.size _ xv x37_ ((D.out.below c.out D.out.lt).cell 0) ((g.out.below c.out g.out.lt).cell 0) (xm.out.up c.out) xo xf.out)).mono ?_;rintro e w6 ⟨v6,rfl,o,P⟩;rw [xh.out] at o;obtain ⟨A6,c6,rfl,_⟩:=id o;have xj:=hid o;replace c:=hid (Z0_ c.out (le_refl _) P);have m:=hid (xk.out.up c.out);have T:=m.out.1.cell k;have fk:=m.out.1.frozen k;have U:=m.out.2.2.2 k (le_refl _) y47_;rw [show (us.toArray)[k]?=us[k]? by simp,U] at T;clear o P U))
    all_goals
     have xl:=hid (m.out.put y47_ xj.out);have xe:=hid ((z.out.trans (c.out.mono (by have:=z.out.size;omega))).setCell (p:=⟨w.heap.size+1+1,k,none⟩) (le_refl _) (.slice A6 (pp.getD k []).length c6));clear T fk;go_wp2
     go_roundw
     case rel=>exact ⟨k+1,_,y38_,x37_,xl.out,xe.out⟩
     exact mz_
  ·have y7:k=adj.length:=by omega
   subst y7;go_wp2;go_ret;refine ⟨_,rfl,?_,x7.out.trans (x9.out.mono x37_)⟩;have h:=xb.out;rw [← Hpl.out] at h ⊢;exact h.rows (by rw [Hpl.out];exact hn)
open Go Go.RowKit
theorem Vj2 (c d:Value) (a b:List Int) (w:World) (ha:Row w w.heap.size c a) (hb:Row w w.heap.size d b) (k:a.length≤1048576) (m:b.length≤1048576) :
  Calls Tryz.prog 65 #[c,d] w (GivesF w (meetL a b)):=by
 have g:=hid (Yn5 c d a b true w ha hb k m);clear ha hb
 go_enter Tryz.func65,Tryz.ntmps65
 go_wp2_with fail
 refine g.out.mono ?_;rintro e q ⟨p,rfl,o,h,j⟩;go_wp2;go_ret;exact ⟨_,rfl,o,h,j⟩
theorem Row.keep {w w':World} {v:Value} {zs:List Int} {row:Option Nat} (h:Row w w.heap.size v zs) (j:w.grownBy w' row) (p:∀ g,v.ownBlock=some g→zs≠[]→some g≠row):Row w' w'.heap.size v zs:=by
 obtain ⟨A,c,rfl,o,m⟩:=h;refine ⟨A,c,rfl,o,fun k d=>?_⟩;obtain ⟨f,rfl,hb,hc⟩:=m k d;exact ⟨f,rfl,Nat.lt_of_lt_of_le hb j.size,(World.cell?_of_block (w:=w) (by rw [Z2_];exact j.block f.block hb (p _ rfl (by intro e;rw [e] at d;simp at d)))).trans hc⟩
def Sep (v:Value) (lo hi:Nat):Prop:=∀ g,v.ownBlock=some g→g<lo∨hi≤g
theorem Ze7 {w:World} {v:Value} {zs:List Int} {lo:Nat} (h:Row w w.heap.size v zs) (e:∀ g,v.ownBlock=some g→lo≤g):∀ g,v.ownBlock=some g→zs≠[]→lo≤g∧g<w.heap.size:=by
 obtain ⟨A,c,rfl,_,f⟩:=h;intro g d j;refine ⟨e g d,?_⟩;obtain ⟨k,rfl,hb,_⟩:=f 0 (List.length_pos_iff.2 j);cases d;exact hb
theorem Zp7 {f:Int→Int} {l:List Int} {k:Nat} (h:k<l.length):(l.take (k+1)).map f=(l.take k).map f ++ [f (l.getD k 0)]:=by
 rw [List.take_succ_eq_append_getElem h,List.map_append,show l.getD k 0=l[k] by simp [List.getD,h]];rfl
theorem Vj3 (a b:List Int):(meetL a b).length≤a.length:=by
 unfold meetL partL;exact x14_
theorem Zp8 (w l:List Int) (h:∀ x∈w,-1152921504606846976≤x∧x≤1152921504606846976) (hl:l≠[]):-1152921504606846976≤mostL w l∧mostL w l≤1152921504606846976:=by
 have c:∀ x:Int,-1152921504606846976≤wt w x∧wt w x≤1152921504606846976:=fun x=>by
  unfold wt;by_cases d:x.toNat<w.length
  ·exact h _ (Y9_ 0 d)
  ·rw [List.getD_eq_getElem?_getD,List.getElem?_eq_none x37_]
   exact ⟨q38_,q38_⟩
 obtain ⟨y,f⟩:=List.exists_mem_of_ne_nil l hl;have g:=H6_ (w:=w) f;have j:=c y;refine ⟨x37_,?_⟩;obtain ⟨z,_,e⟩:=U8_ (w:=w) hl fun y _=>by have:=c y;omega
 rw [← e];exact (c z).2
theorem Xk3 {f:Int→List Int} {l:List Int} {k:Nat} (h:k<l.length):(l.take (k+1)).flatMap f=(l.take k).flatMap f ++ f (l.getD k 0):=by
 rw [List.take_succ_eq_append_getElem h,List.flatMap_append,show l.getD k 0=l[k] by simp [List.getD,h]];simp
theorem Vj4 {f:Int→List Int} {l:List Int} {m:Nat} (h:∀ x∈l,(f x).length≤m):(l.flatMap f).length≤l.length * m:=by
 induction l with
 | nil=>simp
 | cons x l ih =>
  rw [List.flatMap_cons,List.length_append,List.length_cons,Nat.add_mul];have c:=h x j37_;have d:=ih fun y hy=>h y q41_;omega
set_option maxHeartbeats 16000000
set_option maxRecDepth 100000
theorem Vj5 (gv fv tv sv va vb cv:Value) (adj:List (List Int)) (s A B src dst come:List Int) (w:World) (hg:Rows2 w w.heap.size gv adj) (hf:Row w w.heap.size fv src) (ht:Row w w.heap.size tv dst) (hs:Row w w.heap.size sv s) (ha:Row w w.heap.size va A) (hb:Row w w.heap.size vb B) (hc:Row w w.heap.size cv come)
  (hd:DigP adj) (hn:adj.length≤64) (hA:A.length=adj.length) (hB:B.length=adj.length) (uf:s.length≤64) (z3:InN adj.length src) (yx:InN adj.length dst) (yw:InN adj.length come) (z4:∀ x∈A,-1152921504606846976≤x∧x≤1152921504606846976) (z5:∀ x∈B,-1152921504606846976≤x∧x≤1152921504606846976) :
  Calls Tryz.prog 35 #[.agg #[gv,fv,tv],.agg #[sv,va,vb],cv] w (Gives w (gapsL s A B adj src dst come)):=by
 obtain ⟨Ag,cg,rfl,_⟩:=id hg;obtain ⟨Af,cf,rfl,_⟩:=id hf;obtain ⟨At,ct,rfl,_⟩:=id ht;obtain ⟨As,cs,rfl,_⟩:=id hs;obtain ⟨Aa,ca,rfl,_⟩:=id ha;obtain ⟨Ab,cb,rfl,_⟩:=id hb;obtain ⟨Ac,cc,rfl,_⟩:=id hc;have ue:(adj.length:Int)≤64:=x37_;have u9:=Y1_ yw;have ub:=Y1_ z3;have ug:=Y1_ yx;have ua:(come.length:Int)≤64:=x37_;obtain ⟨i0,yj,yl,ym,yn⟩:=info_parts info3;obtain ⟨X,hX⟩:∃ X,(w.alloc (.cells #[.slice Ag adj.length cg,.slice Af src.length cf,.slice At dst.length ct] 56)).alloc (.cells #[.slice As s.length cs,.slice Aa A.length ca,.slice Ab B.length cb] 36)=X:=⟨_,rfl⟩;have HX:=hid hX;have xe:Below w.heap.size w X:=by rw [← hX];exact ((Below.refl _ w).alloc (le_refl _) _).alloc j37_ _
 have zk:Blk X w.heap.size 56 #[.slice Ag adj.length cg,.slice Af src.length cf,.slice At dst.length ct]:=z40_;have zl:Blk X (w.heap.size+1) 36 #[.slice As s.length cs,.slice Aa A.length ca,.slice Ab B.length cb]:=by
  rw [← hX];have:=Blk.new (w.alloc (.cells #[.slice Ag adj.length cg,.slice Af src.length cf,.slice At dst.length ct] 56)) 36 #[.slice As s.length cs,.slice Aa A.length ca,.slice Ab B.length cb]
  rwa [show (w.alloc (.cells #[.slice Ag adj.length cg,.slice Af src.length cf,.slice At dst.length ct] 56)).heap.size=w.heap.size+1 by simp] at this
 have HG:=hid (hg.up xe);have HF:=hid (hf.up xe);have HT:=hid (ht.up xe);have HS:=hid (hs.up xe);have HA:=hid (ha.up xe);have HB:=hid (hb.up xe);have HC:=hid (hc.up xe);have x8:=hid zk;have x9:=hid zl;have zv:=hid xe;have HAl:=hid hA;have HBl:=hid hB;have Hd:=hid hd;have yf:=hid z3;have ye:=hid yx;have y2:=hid yw;have zi:=hid z4;have zj:=hid z5;have yt:Hid (∀ i,i<adj.length→-1152921504606846976≤A.getD i 0∧A.getD i 0≤1152921504606846976):=hid fun i hi=>z4 _ (Y9_ 0 x37_);have yu:Hid (∀ i,i<adj.length→-1152921504606846976≤B.getD i 0∧B.getD i 0≤1152921504606846976):=hid fun i hi=>z5 _ (Y9_ 0 x37_);obtain ⟨V,yi⟩:∃ f:Int→List Int,f=fun x=>(Z5_ (adj.getD x.toNat []) come).map (gapG s A B x):=⟨_,rfl⟩;obtain ⟨f2,yy⟩:∃ f:Int→Int,f=fun x=>mostL A src - wt A x:=⟨_,rfl⟩;obtain ⟨f3,yz⟩:∃ f:Int→Int,f=fun x=>mostL B dst - wt B x:=⟨_,rfl⟩;have zh:Hid (gapsL s A B adj src dst come=come.flatMap V ++ ((Z5_ src come).map f2 ++ (meetL dst come).map f3)):=hid (by rw [yi,yy,yz];rfl);have zw:=hid yi;have zx:=hid yy;have zy:=hid yz;have zg:Hid (∀ i,(adj.getD i []).length≤64):=hid fun i=>by have:=Yg8 (n:=adj.length) (hd.2 i);omega
 have zz:Hid (∀ x∈come,(V x).length≤64):=hid fun x _=>by
  rw [yi,List.length_map];exact Nat.le_trans (M9_ _ _) (zg.out _)
 rw [zh.out];clear hg hf ht hs ha hb hc hX xe zk zl hd hA hB z3 yx yw z4 z5 yi yy yz zh
 go_enter Tryz.func35,Tryz.ntmps35
 go_wp2;rw [HX.out]
 go_loopw [7,18] (fun v7 vk wr=>∃ k:Nat,vk=.int .i64 k∧k≤come.length∧wr.ownsRow X.heap.size 3 1 v7 ((come.take k).flatMap V).length (ints ((come.take k).flatMap V))∧Below X.heap.size X wr) (fun _ vk _=>come.length - (intOf vk).toNat)
 case atStart=>exact ⟨0,rfl,Nat.zero_le _,World.ownsRow_nil _ _ _ _,Below.refl _ _⟩
 case round =>
  obtain ⟨k,rfl,hk,q,hb⟩:=hrel;have U:=hid q;have H:=hid hb;obtain ⟨wo,rfl⟩:∃ wo,wo=wr:=⟨_,rfl⟩;have xp:Hid (((come.take k).flatMap V).length≤4096):=hid (by
   have h1:=Vj4 (f:=V) (l:=come.take k) (m:=64) fun x hx=>zz.out x (List.mem_of_mem_take hx);have h2:=Nat.mul_le_mul_right 64 (show (come.take k).length≤adj.length by rw [List.length_take];omega);have h3:=Nat.mul_le_mul_right 64 hn;omega)
  by_cases z1:k<come.length
  ·have ud:(k:Int)<(come.length:Int):=by omega
   obtain ⟨u7,hA,zm⟩:=Row.nth HC.out z1;subst hA;have g0:=zm wo hb;have hx:=y2.out.2 _ (Y9_ 0 z1);have Hn:=hid (Xk3 (f:=V) z1);obtain ⟨i,hi⟩:∃ i:Nat,come.getD k 0=(i:Int):=⟨(come.getD k 0).toNat,x37_⟩;rw [hi] at g0 hx Hn;have u3:i<adj.length:=x37_;have uc:(i:Int)<(adj.length:Int):=x37_;obtain ⟨u6,u8,u5,_,zo⟩:=id HG.out;obtain ⟨ad,u,hA,hab,zn,z2⟩:=zo i u3;cases u5;subst hA;have g1:=(hb.cell (p:=ad.add i) j38_).trans zn;have yo:=hid (z2.up hb);obtain ⟨Au,cu,rfl,_⟩:=id z2;have q0:=(x8.out.below hb x8.out.lt).cell 0;have yp:=hid (Hd.out.2 i);have zr:=zg.out i;obtain ⟨r,hr⟩:∃ r,adj.getD i []=r:=⟨_,rfl⟩;have zf:Hid (V (i:Int)=(Z5_ r come).map (gapG s A B (i:Int))):=hid (by rw [zw.out,← hr];rfl);have z7:=hid (HC.out.up hb);rw [hr] at yo yp zr g1;clear zo zn z2 hab zm hi q hr;obtain ⟨lo,S⟩:∃ lo,lo=wo.heap.size:=⟨_,rfl⟩
   go_wp2_with fail
   refine (Zd4 _ _ r come wo yo.out z7.out x37_ x37_).mono ?_;rintro e w2 ⟨C,rfl,I,R,xl⟩;obtain ⟨M,G⟩:∃ M,Z5_ r come=M:=⟨_,rfl⟩;have xr:Hid (∀ y∈M,0≤y∧y<(adj.length:Int)):=hid fun y z=>by
    rw [← G] at z;exact yp.out.2 y ((Y4_ yp.out.1 y2.out.1 y).1 z).1
   have yg:M.length≤64:=by rw [← G];exact Nat.le_trans (M9_ _ _) zr
   rw [G] at I zf;obtain ⟨AM,cM,rfl,_⟩:=id I;obtain ⟨hi,x5⟩:∃ hi,hi=w2.heap.size:=⟨_,rfl⟩;have yk:lo≤hi:=by rw [S,x5];exact R.size
   have xq:Hid (∀ g,(Value.slice AM M.length cM).ownBlock=some g→M≠[]→lo≤g∧g<hi):=hid (by rw [S,x5];exact Ze7 I xl);have xh:=hid (D1_ U.out R);have xf:=hid (Z0_ H.out (le_refl _) R);have xg:=hid I;have xj:Hid (∀ g v,wo.ownsRow X.heap.size 3 1 v ((come.take k).flatMap V).length (ints ((come.take k).flatMap V))→v.ownBlock=some g→g<lo):=hid fun g v h e=>by rw [S];exact (h.lt g e).2
   have xi:=hid (fun g e=>Or.inl (b:=hi≤g) (xj.out g _ U.out e));have xm:hi≤w2.heap.size:=x37_;have yh:(M.length:Int)≤64:=x37_;clear I R xl G g0 g1 q0 x5 S U H hb z7 yo xj;generalize (come.take k).flatMap V=F at *
   go_wp2
   go_loopw [7,30] (fun v7 vj wr=>∃ j:Nat,vj=.int .i64 j∧j≤M.length∧wr.ownsRow X.heap.size 3 1 v7 (F ++ (M.take j).map (gapG s A B (i:Int))).length (ints (F ++ (M.take j).map (gapG s A B (i:Int))))∧Below X.heap.size X wr∧Row wr wr.heap.size (.slice AM M.length cM) M∧Sep v7 lo hi∧hi≤wr.heap.size) (fun _ vj _=>M.length - (intOf vj).toNat)
   case atStart=>exact ⟨0,rfl,Nat.zero_le _,by rw [List.take_zero,List.map_nil,List.append_nil];exact xh.out,xf.out,xg.out,xi.out,xm⟩
   case round =>
    clear xh xf xg xi xm;obtain ⟨j,rfl,hj,q,hb,T,x7,xc⟩:=hrel;by_cases hjt:j<M.length
    ·have zq:(j:Int)<(M.length:Int):=by omega
     obtain ⟨y3,hA,xk⟩:=Row.nth T hjt;subst hA;have g0:=xk wr (Below.refl _ _);have z:=xr.out _ (Y9_ 0 hjt);have Hn2:=hid (Zp7 (f:=gapG s A B (i:Int)) hjt);obtain ⟨y,xn⟩:∃ y:Nat,M.getD j 0=(y:Int):=⟨(M.getD j 0).toNat,x37_⟩;rw [xn] at g0 z Hn2;have zs:y<adj.length:=x37_;have ze:=hid hb;have k0:=(x9.out.below hb x9.out.lt).cell 0;have zd:=hid (HS.out.up hb);have z9:=hid T;have HSq:=hid x7;have zc:=hid q;obtain ⟨u1,zp⟩:∃ hb,hasB s (i:Int)=hb:=⟨_,rfl⟩;have yq:=hid zp;clear xk xn q hb T x7 zp
     go_wp2_with fail
     refine (Zs4 _ s (i:Int) wr zd.out x37_).mono ?_;rintro e wq ⟨rfl,y8⟩;rw [yq.out];have yc:=hid (Z0_ ze.out (le_refl _) y8);have y0:=hid (z9.out.up y8);have y1:=hid (D1_ zc.out y8);replace xc:hi≤wq.heap.size:=Nat.le_trans xc y8.size;have xa:=hid (fun g hg=>xq.out g hg k47_);have xb:Hid ((F ++ (M.take j).map (gapG s A B (i:Int))).length≤4160):=hid (by
      rw [List.length_append,List.length_map,List.length_take];have:=xp.out;omega)
     clear y8 k0 g0 ze z9 zc zd;cases u1 with
     | true =>
      obtain ⟨al,hA,x3⟩:=Row.nth HA.out (k:=i) q45_;obtain ⟨u0,xy,y9⟩:=Row.nth HA.out (k:=y) q45_;subst hA;injection xy with xy;subst xy;have b1:=yt.out i x37_;have b2:=yt.out y x37_;have HZ:Hid (gapG s A B (i:Int) (y:Int)=A.getD i 0 - A.getD y 0):=hid (by
       unfold gapG;rw [yq.out];rfl)
      have z0:(i:Int)<(A.length:Int):=q45_;have u2:(y:Int)<(A.length:Int):=q45_;rw [HZ.out] at Hn2;generalize A.getD i 0=za at *
      generalize A.getD y 0=zb at *
      have z6:IntKind.i64.wrap (za - zb)=za - zb:=x38_;have N:Hid (∀ W,Below X.heap.size X W→W.cell? ⟨w.heap.size+1,1,none⟩=some (.slice (some al) A.length ca)∧W.cell? (al.add i)=some (.int .i64 za)∧W.cell? (al.add y)=some (.int .i64 zb)):=hid fun W O=>⟨(x9.out.below O x9.out.lt).cell 1,x3 W O,y9 W O⟩;have c:=hid yc.out.drew;have HQd:Hid (hi≤wq.drew.heap.size):=hid xc;clear x3 y9 HZ b1 b2;obtain ⟨d,hbk⟩:∃ d,F ++ (M.take j).map (gapG s A B (i:Int))=d:=⟨_,rfl⟩;have xs:Hid (F ++ (M.take (j+1)).map (gapG s A B (i:Int))=d ++ [za - zb]):=hid j43_;rw [hbk] at y1 xb;have yv:=xb.out;have ys:=yc.out.size;clear hbk Hn2;obtain ⟨C,J⟩:∃ C,C=Value.slice (some y3) M.length cM:=⟨_,rfl⟩;rw [← J] at y0 xa;have xx:=hid J;have L:=hid (y0.out.up (Below.refl _ wq).drew);have D:=hid y1.out.drew;clear J y0 y1;go_wp2
      go_region_held3 (fun W=>W.cell? ⟨w.heap.size+1,1,none⟩=some (.slice (some al) A.length ca)∧W.cell? (al.add i)=some (.int .i64 za)∧W.cell? (al.add y)=some (.int .i64 zb)) (first | exact N.out _ c.out | exact N.out _ (c.out.alloc c.out.size _) | exact N.out _ K.out) ((refine step_append_lies _ rfl _ _ 26 rfl X.heap.size 3 i0 (.int .i64 0) 1 8 y37_ yj yl ym yn rfl q38_ _ d.length (ints d) rfl (D.out.alloc _) _ 1 1 [.int .i64 (za - zb)] rfl rfl (P7_ _ _ _) (Zd3 _) q38_ z38_ x37_ (by have Q:=c.out.size;first | (simp at Q ⊢;omega) | (simp;omega)) _ rfl ?_;intro gg x1 o x6 P x4 _;have K:Hid (Below X.heap.size X o):=hid ((c.out.alloc c.out.size _).grown P (by have Q:=c.out.size;first | (simp at Q ⊢;omega) | (simp;omega)) (fun i hi=>(D.out.lt i hi).1));have x0:=hid x6;have HG9:=hid P;have HN9:=hid x4;clear x6 P x4))
      all_goals
       have xz:wq.drew.heap.size+1≤o.heap.size:=z10_;have xo:=hid K.out;have Z:Hid (Row o o.heap.size C M):=hid ((L.out.upA _).keep HG9.out fun g hg _ e=>by
        have h1:=xa.out g hg;have h2:=HSq.out g e.symm;omega)
       have xv:Hid (Sep (.slice (some ⟨gg,0,none⟩) (d.length+1) x1) lo hi):=hid fun g hg=>x10_;have xt:Hid (o.ownsRow X.heap.size 3 1 (.slice (some ⟨gg,0,none⟩) (d.length+1) x1) (d ++ [za - zb]).length (ints (d ++ [za - zb]))):=hid (by
        rw [X5_,List.length_append];exact x0.out)
       have xu:Hid (hi≤o.heap.size):=hid (by
        have h3:=HQd.out;omega)
       rw [xx.out] at Z;clear x0 HG9 HN9 K xz c D L HQd;go_simp;go_wp2
       go_roundw
       case rel=>exact ⟨j+1,y38_,x37_,by rw [xs.out];exact xt.out,xo.out,Z.out,xv.out,xu.out⟩
       exact mz_
     | false =>
      obtain ⟨al,hA,x3⟩:=Row.nth HB.out (k:=y) x45_;obtain ⟨u0,xy,y9⟩:=Row.nth HB.out (k:=i) x45_;subst hA;injection xy with xy;subst xy;have b1:=yu.out y x37_;have b2:=yu.out i x37_;have HZ:Hid (gapG s A B (i:Int) (y:Int)=B.getD y 0 - B.getD i 0):=hid (by
       unfold gapG;rw [yq.out];rfl)
      have z0:(y:Int)<(B.length:Int):=x45_;have u2:(i:Int)<(B.length:Int):=x45_;rw [HZ.out] at Hn2;generalize B.getD y 0=za at *
      generalize B.getD i 0=zb at *
      have z6:IntKind.i64.wrap (za - zb)=za - zb:=x38_;have N:Hid (∀ W,Below X.heap.size X W→W.cell? ⟨w.heap.size+1,2,none⟩=some (.slice (some al) B.length cb)∧W.cell? (al.add y)=some (.int .i64 za)∧W.cell? (al.add i)=some (.int .i64 zb)):=hid fun W O=>⟨(x9.out.below O x9.out.lt).cell 2,x3 W O,y9 W O⟩;have c:=hid yc.out.drew;have HQd:Hid (hi≤wq.drew.heap.size):=hid xc;clear x3 y9 HZ b1 b2;obtain ⟨d,hbk⟩:∃ d,F ++ (M.take j).map (gapG s A B (i:Int))=d:=⟨_,rfl⟩;have xs:Hid (F ++ (M.take (j+1)).map (gapG s A B (i:Int))=d ++ [za - zb]):=hid j43_;rw [hbk] at y1 xb;have yv:=xb.out;have ys:=yc.out.size;clear hbk Hn2;obtain ⟨C,J⟩:∃ C,C=Value.slice (some y3) M.length cM:=⟨_,rfl⟩;rw [← J] at y0 xa;have xx:=hid J;have L:=hid (y0.out.up (Below.refl _ wq).drew);have D:=hid y1.out.drew;clear J y0 y1;go_wp2
      go_region_held3 (fun W=>W.cell? ⟨w.heap.size+1,2,none⟩=some (.slice (some al) B.length cb)∧W.cell? (al.add y)=some (.int .i64 za)∧W.cell? (al.add i)=some (.int .i64 zb)) (first | exact N.out _ c.out | exact N.out _ (c.out.alloc c.out.size _) | exact N.out _ K.out) ((refine step_append_lies _ rfl _ _ 26 rfl X.heap.size 3 i0 (.int .i64 0) 1 8 y37_ yj yl ym yn rfl q38_ _ d.length (ints d) rfl (D.out.alloc _) _ 1 1 [.int .i64 (za - zb)] rfl rfl (P7_ _ _ _) (Zd3 _) q38_ z38_ x37_ (by have Q:=c.out.size;first | (simp at Q ⊢;omega) | (simp;omega)) _ rfl ?_;intro gg x1 o x6 P x4 _;have K:Hid (Below X.heap.size X o):=hid ((c.out.alloc c.out.size _).grown P (by have Q:=c.out.size;first | (simp at Q ⊢;omega) | (simp;omega)) (fun i hi=>(D.out.lt i hi).1));have x0:=hid x6;have HG9:=hid P;have HN9:=hid x4;clear x6 P x4))
      all_goals
       have xz:wq.drew.heap.size+1≤o.heap.size:=z10_;have xo:=hid K.out;have Z:Hid (Row o o.heap.size C M):=hid ((L.out.upA _).keep HG9.out fun g hg _ e=>by
        have h1:=xa.out g hg;have h2:=HSq.out g e.symm;omega)
       have xv:Hid (Sep (.slice (some ⟨gg,0,none⟩) (d.length+1) x1) lo hi):=hid fun g hg=>x10_;have xt:Hid (o.ownsRow X.heap.size 3 1 (.slice (some ⟨gg,0,none⟩) (d.length+1) x1) (d ++ [za - zb]).length (ints (d ++ [za - zb]))):=hid (by
        rw [X5_,List.length_append];exact x0.out)
       have xu:Hid (hi≤o.heap.size):=hid (by
        have h3:=HQd.out;omega)
       rw [xx.out] at Z;clear x0 HG9 HN9 K xz c D L HQd;go_simp;go_wp2
       go_roundw
       case rel=>exact ⟨j+1,y38_,x37_,by rw [xs.out];exact xt.out,xo.out,Z.out,xv.out,xu.out⟩
       exact mz_
    ·have ya:j=M.length:=by omega
     subst ya;rw [List.take_length] at q;rw [zf.out] at Hn;have Ho:=hid q;have H:=hid hb;clear q hb T x7;go_wp2
     go_roundw
     case rel=>exact ⟨k+1,y38_,x37_,by rw [Hn.out];exact Ho.out,H.out⟩
     exact mz_
  ·have u4:k=come.length:=by omega
   subst u4;rw [List.take_length] at U xp;generalize come.flatMap V=F at *
   have xw:=hid U.out;have y7:=hid HF.out;have q1:=(x8.out.below H.out x8.out.lt).cell 1;obtain ⟨lo,S⟩:∃ lo,lo=wo.heap.size:=⟨_,rfl⟩
   go_wp2_with fail
   refine (Zd4 _ _ src come wo (y7.out.up H.out) (HC.out.up H.out) x37_ x37_).mono ?_;rintro e w2 ⟨C,rfl,I,R,xl⟩;obtain ⟨M,G⟩:∃ M,Z5_ src come=M:=⟨_,rfl⟩;have y4:Hid (∀ y∈M,y∈src):=hid fun y z=>by
    rw [← G] at z;exact ((Y4_ yf.out.1 y2.out.1 y).1 z).1
   have xr:Hid (∀ y∈M,0≤y∧y<(adj.length:Int)):=hid fun y z=>by
    rw [← G] at z;exact yf.out.2 y ((Y4_ yf.out.1 y2.out.1 y).1 z).1
   have yg:M.length≤64:=by rw [← G];exact Nat.le_trans (M9_ _ _) x37_
   have z8:=hid G;rw [G] at I;obtain ⟨AM,cM,rfl,_⟩:=id I;obtain ⟨hi,x5⟩:∃ hi,hi=w2.heap.size:=⟨_,rfl⟩;have yk:lo≤hi:=by rw [S,x5];exact R.size
   have xq:Hid (∀ g,(Value.slice AM M.length cM).ownBlock=some g→M≠[]→lo≤g∧g<hi):=hid (by rw [S,x5];exact Ze7 I xl);have xh:=hid (D1_ xw.out R);have xf:=hid (Z0_ H.out (le_refl _) R);have xg:=hid I;have xj:Hid (∀ g v,wo.ownsRow X.heap.size 3 1 v F.length (ints F)→v.ownBlock=some g→g<lo):=hid fun g v h e=>by rw [S];exact (h.lt g e).2
   have xi:=hid (fun g e=>Or.inl (b:=hi≤g) (xj.out g _ xw.out e));have xm:hi≤w2.heap.size:=x37_;have yh:(M.length:Int)≤64:=x37_;have y5:Hid (WIn A src):=hid ⟨fun x hx=>by rw [HAl.out];exact yf.out.2 x hx,fun x hx=>by have:=zi.out x hx;omega⟩;have y6:=hid (Zp8 A src zi.out);obtain ⟨E,yb⟩:∃ E,mostL A src=E:=⟨_,rfl⟩;have xd:=hid yb;clear I R xl G q1 x5 S U xw H xj yb;go_wp2
   go_loopw [7,73] (fun v7 vj wr=>∃ j:Nat,vj=.int .i64 j∧j≤M.length∧wr.ownsRow X.heap.size 3 1 v7 (F ++ (M.take j).map f2).length (ints (F ++ (M.take j).map f2))∧Below X.heap.size X wr∧Row wr wr.heap.size (.slice AM M.length cM) M∧Sep v7 lo hi∧hi≤wr.heap.size) (fun _ vj _=>M.length - (intOf vj).toNat)
   case atStart=>exact ⟨0,rfl,Nat.zero_le _,by rw [List.take_zero,List.map_nil,List.append_nil];exact xh.out,xf.out,xg.out,xi.out,xm⟩
   case round =>
    clear xh xf xg xi xm;obtain ⟨j,rfl,hj,q,hb,T,x7,xc⟩:=hrel;by_cases hjt:j<M.length
    ·have zq:(j:Int)<(M.length:Int):=by omega
     obtain ⟨y3,hA,xk⟩:=Row.nth T hjt;subst hA;have g0:=xk wr (Below.refl _ _);have z:=xr.out _ (Y9_ 0 hjt);have Hn2:=hid (Zp7 (f:=f2) hjt);obtain ⟨y,xn⟩:∃ y:Nat,M.getD j 0=(y:Int):=⟨(M.getD j 0).toNat,x37_⟩;rw [xn] at g0 z Hn2;have zs:y<adj.length:=x37_;have xa:=hid (fun g hg=>xq.out g hg k47_);have xb:Hid ((F ++ (M.take j).map f2).length≤4300):=hid (by
      rw [List.length_append,List.length_map,List.length_take];have:=xp.out;omega)
     have HSq:=hid x7;obtain ⟨al,hA,x3⟩:=Row.nth HA.out (k:=y) q45_;subst hA;have b1:=yt.out y x37_;have b2:=y6.out (List.ne_nil_of_mem (y4.out _ (Y9_ 0 hjt)));have HZ:Hid (f2 (y:Int)=E - A.getD y 0):=hid (by rw [zx.out,← xd.out];rfl);have z0:(y:Int)<(A.length:Int):=q45_;rw [HZ.out] at Hn2;rw [xd.out] at b2;generalize A.getD y 0=zb at *
     have z6:IntKind.i64.wrap (E - zb)=E - zb:=x38_;have N:Hid (∀ W,Below X.heap.size X W→W.cell? ⟨w.heap.size+1,1,none⟩=some (.slice (some al) A.length ca)∧W.cell? ⟨w.heap.size,1,none⟩=some (.slice Af src.length cf)∧W.cell? (al.add y)=some (.int .i64 zb)):=hid fun W O=>⟨(x9.out.below O x9.out.lt).cell 1,(x8.out.below O x8.out.lt).cell 1,x3 W O⟩;have c:=hid hb.drew;have HQd:Hid (hi≤wr.drew.heap.size):=hid xc;have ys:=hb.size;clear x3 HZ b1 b2 xk xn;obtain ⟨d,hbk⟩:∃ d,F ++ (M.take j).map f2=d:=⟨_,rfl⟩;have xs:Hid (F ++ (M.take (j+1)).map f2=d ++ [E - zb]):=hid j43_;rw [hbk] at q xb;have yv:=xb.out;clear hbk Hn2;obtain ⟨C,J⟩:∃ C,C=Value.slice (some y3) M.length cM:=⟨_,rfl⟩;rw [← J] at xa;have xx:=hid J;have L:Hid (Row wr.drew wr.drew.heap.size C M):=hid (by rw [J];exact T.up (Below.refl _ wr).drew);have D:=hid q.drew;clear J T q hb x7;go_wp2
     go_region_held3 (fun W=>W.cell? ⟨w.heap.size+1,1,none⟩=some (.slice (some al) A.length ca)∧W.cell? ⟨w.heap.size,1,none⟩=some (.slice Af src.length cf)∧W.cell? (al.add y)=some (.int .i64 zb)) (first | exact N.out _ c.out | exact N.out _ (c.out.alloc c.out.size _) | exact N.out _ K.out) (first | (go_at_call 55;refine (Zs7 _ _ A src _ (HA.out.up c.out) (y7.out.up c.out) x37_ y5.out).mono ?_;rintro e w8 ⟨rfl,x2⟩;rw [xd.out];replace D:=hid (D1_ D.out x2);replace L:=hid (L.out.up x2);replace HQd:Hid (hi≤w8.heap.size):=hid (Nat.le_trans HQd.out x2.size);replace c:=hid (Z0_ c.out (le_refl _) x2);clear x2) | (refine step_append_lies _ rfl _ _ 26 rfl X.heap.size 3 i0 (.int .i64 0) 1 8 y37_ yj yl ym yn rfl q38_ _ d.length (ints d) rfl (D.out.alloc _) _ 1 1 [.int .i64 (E - zb)] rfl rfl (P7_ _ _ _) (Zd3 _) q38_ z38_ x37_ (by have Q:=c.out.size;first | (simp at Q ⊢;omega) | (simp;omega)) _ rfl ?_;intro gg x1 o x6 P x4 _;have K:Hid (Below X.heap.size X o):=hid ((c.out.alloc c.out.size _).grown P (by have Q:=c.out.size;first | (simp at Q ⊢;omega) | (simp;omega)) (fun i hi=>(D.out.lt i hi).1));have x0:=hid x6;have HG9:=hid P;have HN9:=hid x4;clear x6 P x4))
     all_goals
      have xz:w8.heap.size+1≤o.heap.size:=z10_;have xo:=hid K.out;have Z:Hid (Row o o.heap.size C M):=hid ((L.out.upA _).keep HG9.out fun g hg _ e=>by
       have h1:=xa.out g hg;have h2:=HSq.out g e.symm;omega)
      have xv:Hid (Sep (.slice (some ⟨gg,0,none⟩) (d.length+1) x1) lo hi):=hid fun g hg=>k10_;have xt:Hid (o.ownsRow X.heap.size 3 1 (.slice (some ⟨gg,0,none⟩) (d.length+1) x1) (d ++ [E - zb]).length (ints (d ++ [E - zb]))):=hid (by
       rw [X5_,List.length_append];exact x0.out)
      have xu:Hid (hi≤o.heap.size):=hid (by
       have h3:=HQd.out;omega)
      rw [xx.out] at Z;clear x0 HG9 HN9 K xz c D L HQd;go_simp;go_wp2
      go_roundw
      case rel=>exact ⟨j+1,y38_,x37_,by rw [xs.out];exact xt.out,xo.out,Z.out,xv.out,xu.out⟩
      exact mz_
    ·have ya:j=M.length:=by omega
     subst ya;rw [List.take_length] at q;have U:=hid q;have H:=hid hb;have yd:Hid ((F ++ M.map f2).length≤4200):=hid (by
      rw [List.length_append,List.length_map];have:=xp.out;omega)
     clear q hb T x7 xq xr y4 y5 y6 xd yk yg yh xc;obtain ⟨Y,yr⟩:∃ Y,F ++ M.map f2=Y:=⟨_,rfl⟩;have zt:Hid (Y=F ++ (Z5_ src come).map f2):=hid (by rw [z8.out];exact yr.symm);rw [yr] at U yd;replace xp:=yd;clear yr yd z8;obtain ⟨wp,rfl⟩:∃ wp,wp=wr:=⟨_,rfl⟩;have xw:=hid U.out;have y7:=hid HT.out;have q1:=(x8.out.below H.out x8.out.lt).cell 2;obtain ⟨lo,S⟩:∃ lo,lo=wp.heap.size:=⟨_,rfl⟩
     go_wp2_with fail
     refine (Vj2 _ _ dst come wp (y7.out.up H.out) (HC.out.up H.out) x37_ x37_).mono ?_;rintro e w2 ⟨C,rfl,I,R,xl⟩;obtain ⟨M,G⟩:∃ M,meetL dst come=M:=⟨_,rfl⟩;have y4:Hid (∀ y∈M,y∈dst):=hid fun y z=>by
      rw [← G] at z;exact ((G4_ ye.out.1 y2.out.1 y).1 z).1
     have xr:Hid (∀ y∈M,0≤y∧y<(adj.length:Int)):=hid fun y z=>by
      rw [← G] at z;exact ye.out.2 y ((G4_ ye.out.1 y2.out.1 y).1 z).1
     have yg:M.length≤64:=by rw [← G];exact Nat.le_trans (Vj3 _ _) x37_
     have zu:=hid G;rw [G] at I;obtain ⟨AM,cM,rfl,_⟩:=id I;obtain ⟨hi,x5⟩:∃ hi,hi=w2.heap.size:=⟨_,rfl⟩;have yk:lo≤hi:=by rw [S,x5];exact R.size
     have xq:Hid (∀ g,(Value.slice AM M.length cM).ownBlock=some g→M≠[]→lo≤g∧g<hi):=hid (by rw [S,x5];exact Ze7 I xl);have xh:=hid (D1_ xw.out R);have xf:=hid (Z0_ H.out (le_refl _) R);have xg:=hid I;have xj:Hid (∀ g v,wp.ownsRow X.heap.size 3 1 v Y.length (ints Y)→v.ownBlock=some g→g<lo):=hid fun g v h e=>by rw [S];exact (h.lt g e).2
     have xi:=hid (fun g e=>Or.inl (b:=hi≤g) (xj.out g _ xw.out e));have xm:hi≤w2.heap.size:=x37_;have yh:(M.length:Int)≤64:=x37_;have y5:Hid (WIn B dst):=hid ⟨fun x hx=>by rw [HBl.out];exact ye.out.2 x hx,fun x hx=>by have:=zj.out x hx;omega⟩;have y6:=hid (Zp8 B dst zj.out);obtain ⟨E,yb⟩:∃ E,mostL B dst=E:=⟨_,rfl⟩;have xd:=hid yb;clear I R xl G q1 x5 S U xw H xj yb;go_wp2
     go_loopw [7,97] (fun v7 vj wr=>∃ j:Nat,vj=.int .i64 j∧j≤M.length∧wr.ownsRow X.heap.size 3 1 v7 (Y ++ (M.take j).map f3).length (ints (Y ++ (M.take j).map f3))∧Below X.heap.size X wr∧Row wr wr.heap.size (.slice AM M.length cM) M∧Sep v7 lo hi∧hi≤wr.heap.size) (fun _ vj _=>M.length - (intOf vj).toNat)
     case atStart=>exact ⟨0,rfl,Nat.zero_le _,by rw [List.take_zero,List.map_nil,List.append_nil];exact xh.out,xf.out,xg.out,xi.out,xm⟩
     case round =>
      clear xh xf xg xi xm;obtain ⟨j,rfl,hj,q,hb,T,x7,xc⟩:=hrel;by_cases hjt:j<M.length
      ·have zq:(j:Int)<(M.length:Int):=by omega
       obtain ⟨y3,hA,xk⟩:=Row.nth T hjt;subst hA;have g0:=xk wr (Below.refl _ _);have z:=xr.out _ (Y9_ 0 hjt);have Hn2:=hid (Zp7 (f:=f3) hjt);obtain ⟨y,xn⟩:∃ y:Nat,M.getD j 0=(y:Int):=⟨(M.getD j 0).toNat,x37_⟩;rw [xn] at g0 z Hn2;have zs:y<adj.length:=x37_;have xa:=hid (fun g hg=>xq.out g hg k47_);have xb:Hid ((Y ++ (M.take j).map f3).length≤4300):=hid (by
        rw [List.length_append,List.length_map,List.length_take];have:=xp.out;omega)
       have HSq:=hid x7;obtain ⟨al,hA,x3⟩:=Row.nth HB.out (k:=y) x45_;subst hA;have b1:=yu.out y x37_;have b2:=y6.out (List.ne_nil_of_mem (y4.out _ (Y9_ 0 hjt)));have HZ:Hid (f3 (y:Int)=E - B.getD y 0):=hid (by rw [zy.out,← xd.out];rfl);have z0:(y:Int)<(B.length:Int):=x45_;rw [HZ.out] at Hn2;rw [xd.out] at b2;generalize B.getD y 0=zb at *
       have z6:IntKind.i64.wrap (E - zb)=E - zb:=x38_;have N:Hid (∀ W,Below X.heap.size X W→W.cell? ⟨w.heap.size+1,2,none⟩=some (.slice (some al) B.length cb)∧W.cell? ⟨w.heap.size,2,none⟩=some (.slice At dst.length ct)∧W.cell? (al.add y)=some (.int .i64 zb)):=hid fun W O=>⟨(x9.out.below O x9.out.lt).cell 2,(x8.out.below O x8.out.lt).cell 2,x3 W O⟩;have c:=hid hb.drew;have HQd:Hid (hi≤wr.drew.heap.size):=hid xc;have ys:=hb.size;clear x3 HZ b1 b2 xk xn;obtain ⟨d,hbk⟩:∃ d,Y ++ (M.take j).map f3=d:=⟨_,rfl⟩;have xs:Hid (Y ++ (M.take (j+1)).map f3=d ++ [E - zb]):=hid j43_;rw [hbk] at q xb;have yv:=xb.out;clear hbk Hn2;obtain ⟨C,J⟩:∃ C,C=Value.slice (some y3) M.length cM:=⟨_,rfl⟩;rw [← J] at xa;have xx:=hid J;have L:Hid (Row wr.drew wr.drew.heap.size C M):=hid (by rw [J];exact T.up (Below.refl _ wr).drew);have D:=hid q.drew;clear J T q hb x7;go_wp2
       go_region_held3 (fun W=>W.cell? ⟨w.heap.size+1,2,none⟩=some (.slice (some al) B.length cb)∧W.cell? ⟨w.heap.size,2,none⟩=some (.slice At dst.length ct)∧W.cell? (al.add y)=some (.int .i64 zb)) (first | exact N.out _ c.out | exact N.out _ (c.out.alloc c.out.size _) | exact N.out _ K.out) (first | (go_at_call 55;refine (Zs7 _ _ B dst _ (HB.out.up c.out) (y7.out.up c.out) x37_ y5.out).mono ?_;rintro e w8 ⟨rfl,x2⟩;rw [xd.out];replace D:=hid (D1_ D.out x2);replace L:=hid (L.out.up x2);replace HQd:Hid (hi≤w8.heap.size):=hid (Nat.le_trans HQd.out x2.size);replace c:=hid (Z0_ c.out (le_refl _) x2);clear x2) | (refine step_append_lies _ rfl _ _ 26 rfl X.heap.size 3 i0 (.int .i64 0) 1 8 y37_ yj yl ym yn rfl q38_ _ d.length (ints d) rfl (D.out.alloc _) _ 1 1 [.int .i64 (E - zb)] rfl rfl (P7_ _ _ _) (Zd3 _) q38_ z38_ x37_ (by have Q:=c.out.size;first | (simp at Q ⊢;omega) | (simp;omega)) _ rfl ?_;intro gg x1 o x6 P x4 _;have K:Hid (Below X.heap.size X o):=hid ((c.out.alloc c.out.size _).grown P (by have Q:=c.out.size;first | (simp at Q ⊢;omega) | (simp;omega)) (fun i hi=>(D.out.lt i hi).1));have x0:=hid x6;have HG9:=hid P;have HN9:=hid x4;clear x6 P x4))
       all_goals
        have xz:w8.heap.size+1≤o.heap.size:=z10_;have xo:=hid K.out;have Z:Hid (Row o o.heap.size C M):=hid ((L.out.upA _).keep HG9.out fun g hg _ e=>by
         have h1:=xa.out g hg;have h2:=HSq.out g e.symm;omega)
        have xv:Hid (Sep (.slice (some ⟨gg,0,none⟩) (d.length+1) x1) lo hi):=hid fun g hg=>k10_;have xt:Hid (o.ownsRow X.heap.size 3 1 (.slice (some ⟨gg,0,none⟩) (d.length+1) x1) (d ++ [E - zb]).length (ints (d ++ [E - zb]))):=hid (by
         rw [X5_,List.length_append];exact x0.out)
        have xu:Hid (hi≤o.heap.size):=hid (by
         have h3:=HQd.out;omega)
        rw [xx.out] at Z;clear x0 HG9 HN9 K xz c D L HQd;go_simp;go_wp2
        go_roundw
        case rel=>exact ⟨j+1,y38_,x37_,by rw [xs.out];exact xt.out,xo.out,Z.out,xv.out,xu.out⟩
        exact mz_
      ·have ya:j=M.length:=by omega
       subst ya;rw [List.take_length] at q;have U:=hid q;have H:=hid hb;have yd:Hid ((Y ++ M.map f3).length≤4300):=hid (by
        rw [List.length_append,List.length_map];have:=xp.out;omega)
       clear q hb T x7 xq xr y4 y5 y6 xd yk yg yh xc;go_wp2;go_ret;exact ⟨_,rfl,by have h:=Row.of_own U.out rfl;rw [zt.out,← zu.out,List.append_assoc] at h;exact h,Z0_ zv.out (le_refl _) H.out⟩
open Go Go.RowKit
theorem Ze8 (v:Value) (l:List Int) (b:Bool) (h:mayB l=b) (w:World) (c:Row w w.heap.size v l):Calls Tryz.prog 38 #[v] w (Says w b):=by
 obtain ⟨_,_,_,⟨e,d,_⟩,_⟩:=id c;have:=may_any v l w c (by unfold maxLen at d;omega)
 rwa [h] at this
theorem Xx4 (L K:Value) (s l:List Int) (w:World) (D:mayB s=true) (C:(sortL l).length=l.length) (hs:Row w w.heap.size L s) (E:Row w w.heap.size K l) (x3:s.length≤1000) (x2:l.length≤1000) :
  Calls Tryz.prog 33 #[L,K] w (GivesF w (Y3_ (Z5_ s (sortL l)) (Z5_ (sortL l) s))):=by
 have v:=hid hs;have R:=hid E;have Q:=hid D;obtain ⟨As,cs,rfl,_⟩:=hs;obtain ⟨Ap,cp,rfl,_⟩:=E;clear D
 go_enter Tryz.func33,Tryz.ntmps33
 go_wp2_with fail
 refine (Zo0 _ l _ R.out x37_).mono ?_;rintro e w1 ⟨v1,rfl,F,y⟩;have d:=hid F;have p:=hid y;obtain ⟨P,h⟩:∃ P,sortL l=P:=⟨_,rfl⟩;have S:=hid h;rw [h] at d C;have j:P.length≤1048576:=x37_;have o:s.length≤1048576:=x37_;obtain ⟨Aq,cq,rfl,_⟩:=id d.out;have x0:¬ (P.length:Int)<(l.length:Int):=x37_;have x1:P.length≤1048576:=x37_;clear F y h C
 go_wp2_with fail
 refine (Ze8 _ s true Q.out _ (v.out.up p.out)).mono ?_;rintro e w2 ⟨rfl,k⟩;have q:=hid (Z0_ p.out (le_refl _) k);have u:=hid (d.out.up k);have x:=hid (v.out.up q.out);clear k
 go_wp2_with fail
 refine (H5_ _ _ s P _ x.out u.out o j).mono ?_;rintro e w3 ⟨v3,rfl,G,c⟩;have U:=hid G;have M:=hid (Z0_ q.out (le_refl _) c);have T:=hid (u.out.up c);have Y:=hid (x.out.up c);clear c G
 go_wp2_with fail
 refine (H5_ _ _ P s _ T.out Y.out j o).mono ?_;rintro e w4 ⟨v4,rfl,H,m⟩;have W:=hid H;have r:=hid (Z0_ M.out (le_refl _) m);have V:=hid (U.out.up m);clear m H;have l1:(Z5_ s P).length≤1048576:=Nat.le_trans (minus_len s P) o;have l2:(Z5_ P s).length≤1048576:=Nat.le_trans (minus_len P s) j
 go_wp2_with fail
 refine (Yz4 _ _ (Z5_ s P) (Z5_ P s) _ V.out W.out l1 l2).mono ?_;rintro e w5 ⟨J,rfl,I,z,B⟩;have X:=hid I;have O:Hid (∀ g,J.ownBlock=some g→w.heap.size≤g):=hid fun g Z=>Nat.le_trans r.out.size (B g Z);have N:=hid (Z0_ r.out (le_refl _) z);clear z I B;go_wp2;go_ret;exact ⟨J,rfl,by rw [S.out];exact X.out,N.out,O.out⟩
theorem Yg5 (v u:Value) (s l:List Int) (w:World) (c:mayB s=false∨(mayB s=true∧(sortL l).length≠l.length)) (hs:Row w w.heap.size v s) (r:Row w w.heap.size u l) (_hsl:s.length≤1000) (H:l.length≤1000) :
  Calls Tryz.prog 33 #[v,u] w (GivesF w []):=by
 have q:=hid hs;have p:=hid r;obtain ⟨D,cs,rfl,_⟩:=hs;obtain ⟨C,E,rfl,_⟩:=r;obtain ⟨P,o⟩:∃ P,sortL l=P:=⟨_,rfl⟩;have m:=hid o;rw [o] at c;clear o;rcases c with c | ⟨c,F⟩
 ·have k:=hid c
  clear c
  go_enter Tryz.func33,Tryz.ntmps33
  go_wp2_with fail
  refine (Zo0 _ l _ p.out x37_).mono ?_;rintro e B ⟨z,rfl,j,d⟩;rw [m.out] at j;have HB1:=hid d;obtain ⟨x,y,rfl,_⟩:=j;clear d
  go_wp2_with fail
  refine (Ze8 _ s false k.out _ (q.out.up HB1.out)).mono ?_;exact z13_
 ·have k:=hid c
  have G:(P.length:Int)<(l.length:Int):=by have h:=E7_ l;rw [m.out] at h;omega
  clear c
  go_enter Tryz.func33,Tryz.ntmps33
  go_wp2_with fail
  refine (Zo0 _ l _ p.out x37_).mono ?_;rintro e B ⟨z,rfl,j,d⟩;rw [m.out] at j;have HB1:=hid d;obtain ⟨x,y,rfl,_⟩:=j;clear d
  go_wp2_with fail
  refine (Ze8 _ s true k.out _ (q.out.up HB1.out)).mono ?_;exact z13_
theorem Xx5 (d c:Value) (s l:List Int) (w:World) (hs:Row w w.heap.size d s) (g:Row w w.heap.size c l) (k:s.length≤1000) (j:l.length≤1000) :
  Calls Tryz.prog 33 #[d,c] w (GivesF w (turnL s l)):=by
 unfold turnL;by_cases h:mayB s=true∧(sortL l).length=l.length
 ·rw [if_pos h];exact Xx4 d c s l w h.1 h.2 hs g k j
 ·rw [if_neg h]
  refine Yg5 d c s l w ?_ hs g k j;cases hb:mayB s
  ·exact .inl rfl
  ·exact .inr ⟨rfl,fun e=>h ⟨hb,e⟩⟩
end Go.Proofs.YtnaebbjodfnooaaGreatDoor.Wp
