/- The program's May and Graph of layer 13, walked (VGraph). -/
import Derived.Test.YtnbcaibflhgdoaaGreatDoorVInd
import Derived.Test.YtnbcaibflhgdoaaGreatDoorZW
import Derived.Test.YtnbcaibflhgdoaaGreatDoorVGr3
import Derived.Deep.DeepCutAuto
import Derived.Deep.AppendLies
import Derived.Deep.RegionHeld3
import Derived.Test.YtnbcaibflhgdoaaGreatDoorX0A
import Derived.Test.YtnbcaibflhgdoaaGreatDoorX0B
set_option maxHeartbeats 16000000
set_option maxRecDepth 100000
open Go.Lib (hid)
open Nat (le_refl)
namespace Go.Proofs.YtnbcaibflhgdoaaGreatDoor
open Go Go.RowKit
namespace Wp
noncomputable def mayS (a b:Mat) (s:List Int):Bool:=decide (a.n=b.n) && (indT a s && indT b s)
theorem mayS_iff {a b:Mat} {s:List Int}:mayS a b s=true↔Common a b s:=by
 unfold mayS;rw [Bool.and_eq_true,Bool.and_eq_true,decide_eq_true_iff];exact ⟨fun h=>⟨h.1,h.2.1,h.2.2⟩,fun h=>⟨h.n,h.ia,h.ib⟩⟩
def Ys3 (w:World) (adj:List (List Int)) (f t:List Int) (er:Int) (e:Ending) (w':World):Prop:=∃ va vf vt,e=.returned (.tuple #[va,vf,vt,.int .i64 er])∧Rows2 w' w'.heap.size va adj∧Row w' w'.heap.size vf f∧Row w' w'.heap.size vt t∧Below w.heap.size w w'
theorem Ys4 (E:Nat→Addr) (a b:Mat) (K L J:Value) (s:List Int) (w:World) (ha:MatV w w.heap.size K a) (hb:MatV w w.heap.size L b) (G:Sml a) (H:Sml b) (k:Row w w.heap.size J s) (I:s.length≤1048576) (m:Env E w) :
  Calls Tryz.prog 41 #[K,L,J] w (Says w (mayS a b s)):=by
 have x5:=hid ha;have x6:=hid hb;have U:=hid G;have V:=hid H;have x4:=hid m;have x8:=hid k;obtain ⟨la,ia,x2,Y,W⟩:=ha.open;obtain ⟨lb,ib,x3,Z,X⟩:=hb.open;obtain ⟨Al,cl,rfl,_⟩:=Y;obtain ⟨Ai,ci,rfl,_⟩:=W;obtain ⟨Bl,dl,rfl,_⟩:=Z;obtain ⟨Bi,di,rfl,_⟩:=X;obtain ⟨As,cs,x1,_⟩:=id k;subst x2 x3 x1;obtain ⟨j,hW2⟩:∃ j,j=(w.alloc (.cells #[.int .i64 a.t,.int .i64 a.n,.int .i64 a.a,.int .i64 a.b,.slice Al a.l.length cl,.slice Ai a.i.length ci] 25)).alloc (.cells #[.int .i64 b.t,.int .i64 b.n,.int .i64 b.a,.int .i64 b.b,.slice Bl b.l.length dl,.slice Bi b.i.length di] 25):=⟨_,rfl⟩;have u:=hid hW2;have d:Below w.heap.size w j:=by rw [hW2];exact ((Below.refl _ w).alloc (le_refl _) _).alloc x30_ _
 have C:Blk j w.heap.size 25 #[.int .i64 a.t,.int .i64 a.n,.int .i64 a.a,.int .i64 a.b,.slice Al a.l.length cl,.slice Ai a.i.length ci]:=q32_;have D:Blk j (w.heap.size+1) 25 #[.int .i64 b.t,.int .i64 b.n,.int .i64 b.a,.int .i64 b.b,.slice Bl b.l.length dl,.slice Bi b.i.length di]:=x6_;have v:=hid d;have x7:=hid C;have z:=hid D;have M:=hid (ha.up d);have N:=hid (hb.up d);have r:=hid (k.up d);have q:=hid (m.up d);obtain ⟨x,o⟩:∃ x,indT a s=x:=⟨_,rfl⟩;obtain ⟨y,p⟩:∃ y,indT b s=y:=⟨_,rfl⟩;have R:=hid o;have S:=hid p;have F:mayS a b s=(decide (a.n=b.n) && (x && y)):=by unfold mayS;rw [o,p]
 rw [F];clear hW2 d C D ha hb G H k m o p F;by_cases h:a.n=b.n
 ·have x0:(a.n==b.n)=true:=by simpa using h
  rw [decide_eq_true h,Bool.true_and];clear h
  go_enter Tryz.func41,Tryz.ntmps41
  go_wp2_with fail
  rw [← u.out];refine (Zy9 E a _ _ s _ M.out U.out r.out I q.out).mono ?_;rintro e w3 ⟨rfl,g⟩;rw [R.out];have Hb3:=hid (Z0_ v.out (le_refl _) g);have c:=hid (z.out.below g z.out.lt);have O:=hid (N.out.up g);have Q:=hid (r.out.up g);have P:=hid (q.out.up g);clear g;cases x
  ·exact x9_
  ·have n0:=c.out.cell 0
   have n1:=c.out.cell 1;have n2:=c.out.cell 2;have n3:=c.out.cell 3;have n4:=c.out.cell 4;have n5:=c.out.cell 5
   go_wp2_with fail
   refine (Zy9 E b _ _ s _ O.out V.out Q.out I P.out).mono ?_;rintro e w4 ⟨rfl,B⟩;rw [S.out];have T:=hid (Z0_ Hb3.out (le_refl _) B);clear B n0 n1 n2 n3 n4 n5;go_wp2;go_ret;exact ⟨rfl,T.out⟩
 ·have x0:(a.n==b.n)=false:=by simpa using h
  rw [decide_eq_false h,Bool.false_and];clear h
  go_enter Tryz.func41,Tryz.ntmps41
  go_wp2;rw [← u.out];go_ret;exact ⟨rfl,v.out⟩
def set8 (w:World) (g:Nat) (c0 c1 c2 c3 c4 c5 c6 c7:Value):World:=(((((((w.setCell ⟨g,0,none⟩ c0).setCell ⟨g,1,none⟩ c1).setCell ⟨g,2,none⟩ c2).setCell ⟨g,3,none⟩ c3).setCell ⟨g,4,none⟩ c4).setCell ⟨g,5,none⟩ c5).setCell ⟨g,6,none⟩ c6).setCell ⟨g,7,none⟩ c7
theorem Zq2 (w:World) (g:Nat) (c c1 c2 c3 c4 c5 d e:Value):w.grownBy (set8 w g c c1 c2 c3 c4 c5 d e) (some g) :=
 X0_ (X0_ (X0_ (X0_ (X0_ (X0_ (X0_ (Y1_ w g 0 c) (Y1_ _ g 1 c1)) (Y1_ _ g 2 c2)) (Y1_ _ g 3 c3)) (Y1_ _ g 4 c4)) (Y1_ _ g 5 c5)) (Y1_ _ g 6 d)) (Y1_ _ g 7 e)
theorem Yx0 {w:World} {g:Nat} {t:TypeId} {f j k m o p q r:Value} (h:Blk w g t #[f,j,k,m,o,p,q,r]) (c c1 c2 c3 c4 c5 d e:Value):Blk (set8 w g c c1 c2 c3 c4 c5 d e) g t #[c,c1,c2,c3,c4,c5,d,e]:=by
 have h:=(((((((h.set_ 0 c).set_ 1 c1).set_ 2 c2).set_ 3 c3).set_ 4 c4).set_ 5 c5).set_ 6 d).set_ 7 e;unfold set8;exact k19_
theorem Zq3 {w0 w:World} {B g:Nat} (h:Below B w0 w) (c:B≤g) (d c1 c2 c3 c4 c5 e f:Value):Below B w0 (set8 w g d c1 c2 c3 c4 c5 e f) :=
 (((((((h.setCell (p:=⟨g,0,none⟩) c d).setCell (p:=⟨g,1,none⟩) c c1).setCell (p:=⟨g,2,none⟩) c c2).setCell (p:=⟨g,3,none⟩) c c3).setCell (p:=⟨g,4,none⟩) c c4).setCell (p:=⟨g,5,none⟩) c c5).setCell (p:=⟨g,6,none⟩) c e).setCell (p:=⟨g,7,none⟩) c f
theorem T6_ {w:World} {g k:Nat} {t:TypeId} {cs:Array Value} (h:Blk w k t cs) (j:k≠g) (c c1 c2 c3 c4 c5 d f:Value):Blk (set8 w g c c1 c2 c3 c4 c5 d f) k t cs:=h.grown (Zq2 w g c c1 c2 c3 c4 c5 d f) (fun e=>j (Option.some.inj e))
theorem Xr0 {w:World} {base:Nat} {v:Value} {n:Nat} {j:List Value} (h:w.ownsRow base 3 1 v n j) {g:Nat} {t:TypeId} {cs:Array Value} (k:Blk w g t cs) (f : 3 ≠ t):v.ownBlock=none∨v.ownBlock≠some g:=by
 rcases h.2 with ⟨rfl,_⟩ | ⟨c,m,o,rfl,_,d,_⟩
 ·exact .inl rfl
 ·right
  intro e;have e:c=g:=by simpa [Value.ownBlock] using e
  subst e;unfold Blk at k;rw [d] at k;injection k with k;injection k with _ k;exact f k
theorem T7_ {w:World} {base:Nat} {v:Value} {n:Nat} {f:List Value} (h:w.ownsRow base 3 1 v n f) {g:Nat} {t:TypeId} {cs:Array Value} (k:Blk w g t cs) (j : 3 ≠ t) (c c1 c2 c3 c4 c5 d e:Value):(set8 w g c c1 c2 c3 c4 c5 d e).ownsRow base 3 1 v n f:=h.kept (Zq2 w g c c1 c2 c3 c4 c5 d e) (Xr0 h k j)
structure AdjM (w:World) (G:Nat) (vs:List Value) (pp:List (List Int)):Prop where
 blk:Blk w G 26 vs.toArray
 fam:Fam w (G+1) vs pp
theorem AdjM.below {w w':World} {G:Nat} {d:List Value} {c:List (List Int)} (h:AdjM w G d c) (hb:Below w.heap.size w w'):AdjM w' G d c:=⟨h.blk.below hb h.blk.lt,h.fam.bel hb⟩
theorem AdjM.rows {w:World} {G:Nat} {f:List Value} {c:List (List Int)} (h:AdjM w G f c) (hl:c.length≤64):Rows2 w w.heap.size (.slice (some ⟨G,0,none⟩) c.length c.length) c:=by
 refine ⟨_,c.length,rfl,⟨le_refl _,by unfold maxLen;omega,fun e=>by cases e⟩,fun k d=>?_⟩;have g:k<f.length:=by rw [h.fam.1];exact d
 refine ⟨⟨G,0,none⟩,f[k],rfl,h.blk.lt,?_,?_⟩
 ·rw [show (⟨G,0,none⟩:Addr).add k=⟨G,k,none⟩ by unfold Addr.add;split<;>simp_all,h.blk.cell]
  simp [g]
 ·have:=h.fam.2.1 k _ _ (List.getElem?_eq_getElem g) (List.getElem?_eq_getElem d)
  rw [show c.getD k []=c[k] by simp [List.getD,d]];exact Row.of_own this rfl
theorem AdjM.at_ {w:World} {G:Nat} {m:List Value} {d:List (List Int)} (h:AdjM w G m d) {i:Nat} (g:i<d.length):∃ (A:Option Addr) (c:Nat),m[i]?=some (.slice A (d.getD i []).length c)∧w.cell? ⟨G,i,none⟩=some (.slice A (d.getD i []).length c)∧w.frozen? ⟨G,i,none⟩=false∧w.ownsRow (G+1) 3 1 (.slice A (d.getD i []).length c) (d.getD i []).length (ints (d.getD i [])):=by
 have j:i<m.length:=by rw [h.fam.1];exact g
 have k:=h.fam.2.1 i _ _ (List.getElem?_eq_getElem j) (List.getElem?_eq_getElem g);obtain ⟨A,c,f⟩:=H4_ k;have e:d.getD i []=d[i]:=by simp [List.getD,g]
 rw [← e] at k f;refine ⟨A,c,by rw [List.getElem?_eq_getElem j,f],?_,h.blk.frozen i,by rw [← f];exact k⟩;rw [h.blk.cell];simp [j,f]
theorem AdjM.more {w f:World} {G i d g:Nat} {j:List Value} {s:List (List Int)} {A:Option Addr} {c:Nat} {q:List Int} {x:Int} (h:AdjM w G j s) (o:j[i]?=some (.slice A q.length c))
  (F:f.ownsRow (G+1) 3 1 (.slice (some ⟨g,0,none⟩) (q.length+1) d) (q.length+1) (ints q ++ [.int .i64 x])) (m:(w.alloc (.cells #[.int .i64 x] 3)).grownBy f (Value.slice A q.length c).ownBlock) (y:(Value.slice A q.length c).ownBlock=some g∨g=w.heap.size+1) :
  AdjM (f.setCell ⟨G,i,none⟩ (.slice (some ⟨g,0,none⟩) (q.length+1) d)) G (j.set i (.slice (some ⟨g,0,none⟩) (q.length+1) d)) (s.set i (q ++ [x]))∧Below G w (f.setCell ⟨G,i,none⟩ (.slice (some ⟨g,0,none⟩) (q.length+1) d)):=by
 have D:=(List.getElem?_eq_some_iff.1 o).1;have E:i<s.length:=by rw [← h.fam.1];exact D
 have v:=h.blk.lt;have H:=h.fam.2.1 i _ _ o (List.getElem?_eq_getElem E);have u:∀ k,(Value.slice A q.length c).ownBlock=some k→G+1≤k:=fun k r=>(H.lt k r).1;have B:=h.fam.new (World.grownBy_alloc w (.cells #[.int .i64 x] 3) none);have C:=Fam.grow B o m (q:=q ++ [x]) (by rw [List.length_append,show ints (q ++ [x])=ints q ++ [.int .i64 x] by simp [ints]];exact F) (by
  rcases y with e | e
  ·exact .inl e.symm
  ·exact .inr (by rw [e];simp [Value.ownBlock]))
 have z:Blk f G 26 j.toArray:=(h.blk.alloc _).grown m (fun e=>by have:=u G e.symm;omega);have I:=Y1_ f G i (.slice (some ⟨g,0,none⟩) (q.length+1) d);refine ⟨⟨?_,C.apart I (Nat.lt_succ_self G)⟩,?_⟩
 ·have:=z.set_ i (.slice (some ⟨g,0,none⟩) (q.length+1) d)
  simpa using this
 ·exact (((Below.refl G w).alloc (Nat.le_of_lt v) (.cells #[.int .i64 x] 3)).grown m j30_ (fun k r=>by have:=u k r;omega)).setCell (p:=⟨G,i,none⟩) (le_refl _) _
def V5_ (F T:Int→Int→Bool) (L:List (Int × Int)) (p:Int):List Int:=L.flatMap fun e=>(if e.1=p∧F e.2 e.1=true then [e.2] else []) ++ (if e.2=p∧T e.2 e.1=true then [e.1] else [])
def V2_ (F T:Int→Int→Bool) (L:List (Int × Int)) (n:Nat):List (List Int):=(List.range n).map fun (i:Nat)=>V5_ F T L (i:Int)
theorem L9_ (F T:Int→Int→Bool) (L:List (Int × Int)) (n:Nat):(V2_ F T L n).length=n:=by simp [V2_]
theorem Yd5 {F T:Int→Int→Bool} {L:List (Int × Int)} {n i:Nat} (h:i<n):(V2_ F T L n).getD i []=V5_ F T L (i:Int):=by simp [V2_,List.getD,h]
theorem M0_ (F T:Int→Int→Bool) (L:List (Int × Int)) (y x p:Int):V5_ F T (L ++ [(y,x)]) p=V5_ F T L p ++ ((if y=p∧F x y=true then [x] else []) ++ (if x=p∧T x y=true then [y] else [])):=by
 unfold V5_;rw [List.flatMap_append];simp
theorem Zy7 {f g:Nat→List Int} {n i:Nat} (hi:i<n) (h:∀ k,k≠i→g k=f k):((List.range n).map f).set i (g i)=(List.range n).map g:=by
 refine List.ext_getElem? fun k=>?_;by_cases c:k=i
 ·subst c
  rw [List.getElem?_set_self z36_];simp [hi]
 ·rw [List.getElem?_set_ne (Ne.symm c)]
  by_cases d:k<n
  ·simp [d,h k c]
  ·rw [List.getElem?_eq_none (by simpa using Nat.le_of_not_lt d),List.getElem?_eq_none (by simpa using Nat.le_of_not_lt d)]
def J4_ (F T:Int→Int→Bool) (L:List (Int × Int)) (y x:Int) (n:Nat):List (List Int):=(List.range n).map fun (i:Nat)=>V5_ F T L (i:Int) ++ if y=(i:Int)∧F x y=true then [x] else []
theorem Xr1 {F T:Int→Int→Bool} {L:List (Int × Int)} {y x:Int} {n:Nat} (h:F x y=false):J4_ F T L y x n=V2_ F T L n:=by
 unfold J4_ V2_;refine List.map_congr_left fun i _=>?_;rw [if_neg (by rw [h];simp),List.append_nil]
theorem Xc3 {F T:Int→Int→Bool} {L:List (Int × Int)} {Y n:Nat} {x:Int} (c:Y<n) (h:F x (Y:Int)=true):(V2_ F T L n).set Y (V5_ F T L (Y:Int) ++ [x])=J4_ F T L (Y:Int) x n:=by
 have:=Zy7 (f:=fun i:Nat=>V5_ F T L (i:Int)) (g:=fun i:Nat=>V5_ F T L (i:Int) ++ if (Y:Int)=(i:Int)∧F x (Y:Int)=true then [x] else []) c (fun k d=>by rw [if_neg (fun e=>d j29_),List.append_nil]);rw [if_pos ⟨rfl,h⟩] at this;exact this
theorem Xr2 {F T:Int→Int→Bool} {L:List (Int × Int)} {y x:Int} {n i:Nat} (h:i<n):(J4_ F T L y x n).getD i []=V5_ F T L (i:Int) ++ if y=(i:Int)∧F x y=true then [x] else []:=by simp [J4_,List.getD,h]
theorem Yx1 (F T:Int→Int→Bool) (L:List (Int × Int)) (y x:Int) (n:Nat):(J4_ F T L y x n).length=n:=by simp [J4_]
theorem Ys5 {F T:Int→Int→Bool} {L:List (Int × Int)} {y x:Int} {n:Nat} (h:T x y=false):J4_ F T L y x n=V2_ F T (L ++ [(y,x)]) n:=by
 unfold J4_ V2_;refine List.map_congr_left fun i _=>?_;rw [M0_,if_neg (show ¬ (x=(i:Int)∧T x y=true) by rw [h];simp),List.append_nil]
theorem Yx2 {F T:Int→Int→Bool} {L:List (Int × Int)} {X n:Nat} {y:Int} (c:X<n) (j:y≠(X:Int)) (h:T (X:Int) y=true):(J4_ F T L y (X:Int) n).set X (V5_ F T L (X:Int) ++ [y])=V2_ F T (L ++ [(y,(X:Int))]) n:=by
 have:=Zy7 (f:=fun i:Nat=>V5_ F T L (i:Int) ++ if y=(i:Int)∧F (X:Int) y=true then [(X:Int)] else []) (g:=fun i:Nat=>V5_ F T (L ++ [(y,(X:Int))]) (i:Int)) c (fun k d=>by
  show V5_ F T (L ++ [(y,(X:Int))]) (k:Int)=_;rw [M0_,if_neg (show ¬ ((X:Int)=(k:Int)∧T (X:Int) y=true) from fun e=>d j29_),List.append_nil])
 rw [M0_,if_neg (show ¬ (y=(X:Int)∧F (X:Int) y=true) from fun e=>j e.1),if_pos ⟨rfl,h⟩,List.nil_append] at this;exact this
def J5_ (s o:List Int) (i j:Nat):List (Int × Int):=((s.take i).flatMap fun y=>o.map fun x=>(y,x)) ++ (o.take j).map fun x=>(s.getD i 0,x)
theorem Yd6 (s o:List Int):J5_ s o 0 0=[]:=by simp [J5_]
theorem Yd7 {s o:List Int} {i j:Nat} (c:j<o.length):J5_ s o i (j+1)=J5_ s o i j ++ [(s.getD i 0,o.getD j 0)]:=by
 unfold J5_;rw [List.take_succ_eq_append_getElem c,List.map_append,List.append_assoc,show o[j]=o.getD j 0 by simp [List.getD,c]];rfl
theorem Yd8 {s o:List Int} {i:Nat} (c:i<s.length):J5_ s o i o.length=J5_ s o (i+1) 0:=by
 unfold J5_;rw [List.take_succ_eq_append_getElem c,List.flatMap_append,List.take_length,show s[i]=s.getD i 0 by simp [List.getD,c]];simp
theorem Xg7 {m:Mat} {s:List Int} (hc:chk m=0) (d:InN (nN m) s):((Z4_ (allL m.n) s).filter fun x=>indT m (Y7_ s [x]))=addG m s:=by
 have e:=chk_n hc;refine O9_ ((J8_ e.1 e.2 d.1).1.1.filter _) ((A6_ (Z7_ hc).2).1.1) fun x=>?_;unfold addG;rw [List.mem_filter,List.mem_filter,Y3_ (J9_ m.n) d.1,A0_ e.1 j29_,mem_upTo,Bool.and_eq_true,Bool.not_eq_true',← Bool.not_eq_true,D2_ d.1];have:(nN m:Int)=m.n:=(Z7_ hc).1;constructor
 ·rintro ⟨⟨f,c⟩,h3⟩;exact ⟨⟨j29_,j29_⟩,c,h3⟩
 ·rintro ⟨f,c,h3⟩;exact ⟨⟨⟨j29_,j29_⟩,c⟩,h3⟩
theorem A5_ {α β:Type} {l:List α} {f g:α→List β} (h:∀ x∈l,f x=g x):l.flatMap f=l.flatMap g:=by
 rw [List.flatMap_def,List.flatMap_def,List.map_congr_left h]
theorem M1_ {p:Int} {g:List Int}:∀ {s:List Int},s.Nodup→p∈s→(s.flatMap fun y=>if y=p then g else [])=g
 | [],_,h=>by simp at h
 | a :: l,hn,h=>by
  obtain ⟨d,f⟩:=List.nodup_cons.1 hn;rw [List.flatMap_cons];by_cases e:a=p
  ·subst e
   rw [if_pos rfl];have:(l.flatMap fun y=>if y=a then g else [])=[]:=by
    rw [List.flatMap_eq_nil_iff];intro y j;rw [if_neg (fun e:y=a=>d (e▸j))]
   rw [this,List.append_nil]
  ·rw [if_neg e,List.nil_append]
   exact M1_ f ((List.mem_cons.1 h).resolve_left (fun c=>e c.symm))
theorem F1_ (P:Int→Bool):∀ s:List Int,(s.flatMap fun y=>if P y=true then [y] else [])=s.filter P
 | []=>rfl
 | a :: l=>by
  rw [List.flatMap_cons,F1_ P l,List.filter_cons];split<;>rfl
theorem Zi9 (F T:Int→Int→Bool) (s o:List Int) (p:Int):V5_ F T (J5_ s o s.length 0) p=s.flatMap fun y=>o.flatMap fun x=>(if y=p∧F x y=true then [x] else []) ++ (if x=p∧T x y=true then [y] else []):=by
 unfold V5_ J5_;rw [List.take_length,List.take_zero,List.map_nil,List.append_nil,List.flatMap_assoc];refine A5_ fun y _=>?_;rw [List.flatMap_map]
theorem Xr3 {F T:Int→Int→Bool} {s o:List Int} {p:Int} (hs:s.Nodup) (f:p∈s) (d:p∉o):V5_ F T (J5_ s o s.length 0) p=o.filter fun x=>F x p:=by
 rw [Zi9,← F1_,← M1_ (g:=o.flatMap fun x=>if F x p=true then [x] else []) hs f];refine A5_ fun y _=>?_;by_cases e:y=p
 ·subst e
  rw [if_pos rfl];refine A5_ fun x c=>?_;rw [if_neg (show ¬ (x=y∧T x y=true) from fun h=>d (h.1▸c)),List.append_nil];simp
 ·rw [if_neg e,List.flatMap_eq_nil_iff]
  intro x c;rw [if_neg (show ¬ (y=p∧F x y=true) from fun h=>e h.1),if_neg (show ¬ (x=p∧T x y=true) from fun h=>d (h.1▸c))];rfl
theorem Xc4 {F T:Int→Int→Bool} {s o:List Int} {p:Int} (c:o.Nodup) (d:p∈o) (f:p∉s):V5_ F T (J5_ s o s.length 0) p=s.filter fun y=>T p y:=by
 rw [Zi9,← F1_];refine A5_ fun y j=>?_;rw [← M1_ (g:=if T p y=true then [y] else []) c d];refine A5_ fun x _=>?_;rw [if_neg (show ¬ (y=p∧F x y=true) from fun h=>f (h.1▸j)),List.nil_append];by_cases e:x=p
 ·subst e;simp
 ·simp [e]
theorem Zk0 {s:List Int} (h:IsSet s):s.Nodup:=h.1.imp (fun h=>by omega)
theorem Zk1 {m:Mat} {s:List Int} (o:indT m s=true) {x y:Int} (d:InN (nN m) [x]):(hasB (addG m s) x || indT m (Y7_ (Z4_ s [y]) [x]))=indT m (Y7_ (Z4_ s [y]) [x]):=by
 obtain ⟨hc,f⟩:=mayI_iff.1 (V3_ o);cases h:hasB (addG m s) x with
 | false=>rfl
 | true =>
  rw [Bool.true_or];symm;have hA:InN (nN m) (addG m s):=A6_ (Z7_ hc).2;have e:=(D2_ hA.1 x).1 h;unfold addG at e;rw [List.mem_filter,Bool.and_eq_true] at e;have k:=A3_ f d;have g:∀ z∈Z4_ s [y],z∈s:=fun z c=>by
   unfold Z4_ partL at c;split at c
   ·exact (List.mem_filter.1 c).1
   ·simp at c
  have j:InN (nN m) (Z4_ s [y]):=⟨V8_ _ _,fun z c=>f.2 z (g z c)⟩;refine Xc5 (mayI_iff.2 ⟨hc,k⟩) (mayI_iff.2 ⟨hc,A3_ j d⟩) (fun z c=>?_) e.2.2;rw [Q9_ (V8_ _ _) d.1] at c;rw [Q9_ f.1 d.1];exact c.imp (g z) id
theorem Xr4 {a b:Mat} {s:List Int} (f:Common a b s):V2_ (fun x y=>hasB (addG a s) x || indT a (Y7_ (Z4_ s [y]) [x])) (fun x y=>hasB (addG b s) x || indT b (Y7_ (Z4_ s [y]) [x])) (J5_ s (Z4_ (allL a.n) s) s.length 0) (nN a)=adjG a b s:=by
 have c:=f.set;have j:=f.n64;have r:=(mayI_iff.1 (V3_ f.ia)).1;have o:=chk_n r;have w:(nN a:Int)=a.n:=(Z7_ r).1;have u:InN (nN a) (Z4_ (allL a.n) s):=J8_ o.1 o.2 c.1;have p:∀ x,x∈Z4_ (allL a.n) s↔(0≤x∧x<(nN a:Int))∧x∉s:=fun x=>by
  rw [Y3_ (J9_ a.n) c.1,A0_ o.1 j29_,w]
 unfold V2_ adjG upTo;rw [List.map_map];refine List.map_congr_left fun i m=>?_;have m:=List.mem_range.1 m;show V5_ _ _ _ (i:Int)=arcsG a b s (i:Int);have v:nN b=nN a:=f.nn;by_cases e:(i:Int)∈s
 ·rw [Xr3 (Zk0 c.1) e (fun h=>((p _).1 h).2 e)]
  refine O9_ (u.1.filter _).1 ((U1_ j).filter _).1 fun x=>?_;rw [List.mem_filter,p];unfold arcsG;rw [List.mem_filter,mem_upTo];have k:K8_ b s (i:Int) x=false:=by
   unfold K8_;rw [(D2_ c.1 _).2 e];simp
  rw [k,Bool.or_false];unfold K8_;rw [(D2_ c.1 _).2 e,Bool.true_and,Bool.and_eq_true,Bool.not_eq_true',← Bool.not_eq_true,D2_ c.1];constructor
  ·rintro ⟨⟨d,g⟩,h3⟩
   have z:InN (nN a) [x]:=by
    obtain ⟨X,rfl⟩:∃ X:Nat,x=(X:Int):=⟨x.toNat,j29_⟩;exact Zx0 j j29_
   rw [Zk1 f.ia z] at h3;exact ⟨d,g,h3⟩
  ·rintro ⟨d,g,h3⟩
   refine ⟨⟨d,g⟩,?_⟩;rw [h3,Bool.or_true]
 ·rw [Xc4 (Zk0 u.1) ((p _).2 ⟨⟨j29_,j29_⟩,e⟩) e]
  refine O9_ (c.1.filter _).1 ((U1_ j).filter _).1 fun y=>?_;rw [List.mem_filter];unfold arcsG;rw [List.mem_filter,mem_upTo];have q:hasB s (i:Int)=false:=by rw [← Bool.not_eq_true,D2_ c.1];exact e
  have k:K8_ a s y (i:Int)=false:=by
   unfold K8_;rw [q,Bool.false_and]
  rw [k,Bool.false_or];unfold K8_;rw [q,Bool.not_false,Bool.true_and,Bool.and_eq_true,D2_ c.1,Zk1 f.ib (by rw [v];exact Zx0 j m)];constructor
  ·rintro ⟨d,h3⟩
   have:=c.2 y d;exact ⟨this,d,h3⟩
  ·rintro ⟨d,g,h3⟩
   exact ⟨g,h3⟩
theorem Zs1 (w:World) (t:TypeId) (u:Value):∀ (j:Nat) (v:Value),[u][j]?=some v→(w.alloc (.cells #[u] t)).cell? ((⟨w.heap.size,0,none⟩:Addr).add j)=some v:=fun j v h=>by
 cases j with
 | zero =>
  have e:u=v:=x34_;rw [add_g,(Blk.new w t #[u]).cell,← e];rfl
 | succ j=>simp at h
theorem AdjM.fresh {w:World} {G n:Nat} {F T:Int→Int→Bool} (hb:Blk w G 26 (fillV (fun _=>undef) (.slice none 0 0) n 0)):∃ h,AdjM w G h (V2_ F T [] n):=by
 refine ⟨(List.range n).map fun i=>if i<0 then undef else .slice none 0 0,hb,by simp [V2_],fun i v p d g=>?_,fun i j v u d k _=>?_⟩
 ·have c:=(List.getElem?_eq_some_iff.1 d).1
  rw [List.length_map,List.length_range] at c;have e:v=.slice none 0 0:=by simpa [c] using d.symm
  have f:p=[]:=by simpa [V2_,c,V5_] using g.symm
  rw [e,f];exact World.ownsRow_nil _ _ _ _
 ·have c:=(List.getElem?_eq_some_iff.1 d).1
  rw [List.length_map,List.length_range] at c;have e:v=.slice none 0 0:=by simpa [c] using d.symm
  rw [e];exact .inl rfl
theorem AdjM.mid {w f:World} {G i:Nat} {d:List Value} {p:List (List Int)} {v:Value} (h:AdjM w G d p) (m:d[i]?=some v) (o:Obj) (j:(w.alloc o).grownBy f v.ownBlock):Blk f G 26 d.toArray∧Below G w f:=by
 have r:=(List.getElem?_eq_some_iff.1 m).1;have s:i<p.length:=by rw [← h.fam.1];exact r
 have q:=h.blk.lt;have u:=h.fam.2.1 i _ _ m (List.getElem?_eq_getElem s);have g:∀ k,v.ownBlock=some k→G+1≤k:=fun k c=>(u.lt k c).1;exact ⟨(h.blk.alloc _).grown j (fun e=>by have:=g G e.symm;omega),((Below.refl G w).alloc (Nat.le_of_lt q) o).grown j j30_ (fun k c=>by have:=g k c;omega)⟩
theorem T8_ (F T:Int→Int→Bool) (p:Int):∀ L:List (Int × Int),(V5_ F T L p).length≤2 * L.length
 | []=>by simp [V5_]
 | e :: L=>by
  have c:=T8_ F T p L;unfold V5_ at c ⊢;rw [List.flatMap_cons,List.length_append,List.length_append,List.length_cons];have d:(if e.1=p∧F e.2 e.1=true then [e.2] else []).length≤1:=by split<;>simp
  have f:(if e.2=p∧T e.2 e.1=true then [e.1] else []).length≤1:=by split<;>simp
  omega
theorem Ys6 {s o:List Int} {i j:Nat} (e:i≤64) (f:j≤64) (g:o.length≤64):(J5_ s o i j).length≤4160:=by
 have h:∀ t:List Int,(t.flatMap fun y=>o.map fun x=>(y,x)).length≤t.length * 64:=by
  intro t
  induction t with
  | nil=>simp
  | cons a t ih =>
   rw [List.flatMap_cons,List.length_append,List.length_map,List.length_cons];omega
 unfold J5_;rw [List.length_append,List.length_map,List.length_take];have c:=h (s.take i);rw [List.length_take] at c;have d:min i s.length≤64:=j29_;omega
theorem Vv6 {a:Mat} {s:List Int} (hc:chk a=0) (d:InN (nN a) s):s.length+(Z4_ (allL a.n) s).length=nN a:=by
 have c:=chk_n hc;have f:=V6_ (J8_ c.1 c.2 d.1);have g:=V6_ d;have h3:cnt (memP (Z4_ (allL a.n) s)) a.n.toNat=cnt (notP (memP s)) a.n.toNat:=Q0_ fun i j=>N7_ c.1 c.2 d.1 j;have h:=Zw4 (memP s) (nN a);rw [f,h3,g];have e:nN a=a.n.toNat:=rfl;rw [e] at h ⊢;omega
theorem Zq4 {F T:Int→Int→Bool} {L:List (Int × Int)} {y:Int} {n X:Nat} (h:X<n) (c:y≠(X:Int)):(J4_ F T L y (X:Int) n).getD X []=V5_ F T L (X:Int):=by
 rw [Xr2 h,if_neg (fun e=>c e.1),List.append_nil]
theorem Yd9 (E:Nat→Addr) (a b:Mat) (va vb sv:Value) (s:List Int) (w:World) (ha:MatV w w.heap.size va a) (hb:MatV w w.heap.size vb b) (xo:Sml a) (xp:Sml b) (hr:Row w w.heap.size sv s) (hE:Env E w) (hC:Common a b s) :
  Calls Tryz.prog 19 #[va,vb,sv] w (Ys3 w (adjG a b s) (addG a s) (addG b s) 0):=by
 have hS:=hC.set;have ut:=hC.n64;have uu:=V1_ hS;have xd:=(mayI_iff.1 (V3_ hC.ia)).1;have z3:=(mayI_iff.1 (V3_ hC.ib)).1;have ya:=chk_n xd;have xn:InN (nN a) (Z4_ (allL a.n) s):=J8_ ya.1 ya.2 hS.1;have zd:=V1_ xn;have HM:Hid (∀ (va vb sv:Value) (W:World),MatV W W.heap.size va a→MatV W W.heap.size vb b→Row W W.heap.size sv s→Env E W→Calls Tryz.prog 41 #[va,vb,sv] W (Says W true)):=hid fun va vb sv W S h2 h3 h4=>by rw [← mayS_iff.2 hC];exact Ys4 E a b va vb sv s W S h2 xo xp h3 j29_ h4
 obtain ⟨la,ia,uw,uq,uk⟩:=ha.open;obtain ⟨lb,ib,ux,ur,ul⟩:=hb.open;obtain ⟨Al,cl,rfl,_⟩:=uq;obtain ⟨Ai,ci,rfl,_⟩:=uk;obtain ⟨Bl,dl,rfl,_⟩:=ur;obtain ⟨Bi,di,rfl,_⟩:=ul;obtain ⟨k,cs,uv,_⟩:=id hr;subst uw ux uv;obtain ⟨o,ho⟩:∃ o,Z4_ (allL a.n) s=o:=⟨_,rfl⟩;have zb:Z4_ (allL b.n) s=o:=by rw [← hC.n];exact ho
 rw [ho] at zd xn;have xv:Hid (∀ W,MatV W W.heap.size (.agg #[.int .i64 a.t,.int .i64 a.n,.int .i64 a.a,.int .i64 a.b,.slice Al a.l.length cl,.slice Ai a.i.length ci]) a→Row W W.heap.size (.slice k s.length cs) s→Env E W→Calls Tryz.prog 42 #[.agg #[.int .i64 a.t,.int .i64 a.n,.int .i64 a.a,.int .i64 a.b,.slice Al a.l.length cl,.slice Ai a.i.length ci],.slice k s.length cs] W (O7_ W (.int .i64 a.t) (.int .i64 a.n) (.int .i64 a.a) (.int .i64 a.b) (.slice Al a.l.length cl) (.slice Ai a.i.length ci) (.slice k s.length cs) (addG a s))):=hid fun W S h2 h3=>by
  have h:=Za0 E a Al Ai _ _ _ _ _ s W S xo h2 j29_ (by rw [ho];omega) h3;rw [Xg7 xd hS] at h;exact h
 have xw:Hid (∀ W,MatV W W.heap.size (.agg #[.int .i64 b.t,.int .i64 b.n,.int .i64 b.a,.int .i64 b.b,.slice Bl b.l.length dl,.slice Bi b.i.length di]) b→Row W W.heap.size (.slice k s.length cs) s→Env E W→Calls Tryz.prog 42 #[.agg #[.int .i64 b.t,.int .i64 b.n,.int .i64 b.a,.int .i64 b.b,.slice Bl b.l.length dl,.slice Bi b.i.length di],.slice k s.length cs] W (O7_ W (.int .i64 b.t) (.int .i64 b.n) (.int .i64 b.a) (.int .i64 b.b) (.slice Bl b.l.length dl) (.slice Bi b.i.length di) (.slice k s.length cs) (addG b s))):=hid fun W S h2 h3=>by
  have h:=Za0 E b Bl Bi _ _ _ _ _ s W S xp h2 j29_ (by rw [zb];omega) h3;rw [Xg7 z3 (by rw [hC.nn];exact hS)] at h;exact h
 obtain ⟨Z,xf⟩:∃ Z,addG a s=Z:=⟨_,rfl⟩;obtain ⟨FB,xg⟩:∃ FB,addG b s=FB:=⟨_,rfl⟩;rw [xf] at xv;rw [xg] at xw;obtain ⟨W2,hW2⟩:∃ W2,W2=(w.alloc (.cells #[.int .i64 a.t,.int .i64 a.n,.int .i64 a.a,.int .i64 a.b,.slice Al a.l.length cl,.slice Ai a.i.length ci] 25)).alloc (.cells #[.int .i64 b.t,.int .i64 b.n,.int .i64 b.a,.int .i64 b.b,.slice Bl b.l.length dl,.slice Bi b.i.length di] 25):=⟨_,rfl⟩;have u4:=hid hW2;have xc:Below w.heap.size w W2:=by rw [hW2];exact ((Below.refl _ w).alloc (le_refl _) _).alloc x30_ _
 have z9:Blk W2 w.heap.size 25 #[.int .i64 a.t,.int .i64 a.n,.int .i64 a.a,.int .i64 a.b,.slice Al a.l.length cl,.slice Ai a.i.length ci]:=q32_;have za:Blk W2 (w.heap.size+1) 25 #[.int .i64 b.t,.int .i64 b.n,.int .i64 b.a,.int .i64 b.b,.slice Bl b.l.length dl,.slice Bi b.i.length di]:=x6_;have u7:=hid xc;have xy:=hid z9;have xz:=hid za;have HA:=hid (ha.up xc);have x4:=hid (hb.up xc);have HR:=hid (hr.up xc);have HE:=hid (hE.up xc);have HC:=hid hC;have Ho:=hid ho;have yu:=hid xn;have xl:=hid hS;have yv:=hid xo;have yw:=hid xp;clear hW2 xc z9 za ha hb xo xp hr hE hC hS xd z3 ya xn ho zb
 go_enter Tryz.func19,Tryz.ntmps19
 go_wp2_with fail
 rw [← u4.out];refine (HM.out _ _ _ _ HA.out x4.out HR.out HE.out).mono ?_;rintro e O ⟨rfl,x3⟩;have u8:=hid (Z0_ u7.out (le_refl _) x3);have K:=hid (xy.out.below x3 xy.out.lt);have M:=hid (xz.out.below x3 xz.out.lt);replace HA:=hid (HA.out.up x3);replace x4:=hid (x4.out.up x3);replace HR:=hid (HR.out.up x3);replace HE:=hid (HE.out.up x3);clear x3 HM xy xz;have K1:Hid (∀ W,Below O.heap.size O W→W.cell? ⟨w.heap.size,0,none⟩=some (.int .i64 a.t)∧W.cell? ⟨w.heap.size,1,none⟩=some (.int .i64 a.n)∧W.cell? ⟨w.heap.size,2,none⟩=some (.int .i64 a.a)∧W.cell? ⟨w.heap.size,3,none⟩=some (.int .i64 a.b)∧W.cell? ⟨w.heap.size,4,none⟩=some (.slice Al a.l.length cl)∧W.cell? ⟨w.heap.size,5,none⟩=some (.slice Ai a.i.length ci)∧W.cell? ⟨w.heap.size+1,0,none⟩=some (.int .i64 b.t)∧W.cell? ⟨w.heap.size+1,1,none⟩=some (.int .i64 b.n)∧W.cell? ⟨w.heap.size+1,2,none⟩=some (.int .i64 b.a)∧W.cell? ⟨w.heap.size+1,3,none⟩=some (.int .i64 b.b)∧W.cell? ⟨w.heap.size+1,4,none⟩=some (.slice Bl b.l.length dl)∧W.cell? ⟨w.heap.size+1,5,none⟩=some (.slice Bi b.i.length di)):=hid fun W d=>⟨(K.out.below d K.out.lt).cell 0,(K.out.below d K.out.lt).cell 1,(K.out.below d K.out.lt).cell 2,(K.out.below d K.out.lt).cell 3,(K.out.below d K.out.lt).cell 4,(K.out.below d K.out.lt).cell 5,(M.out.below d M.out.lt).cell 0,(M.out.below d M.out.lt).cell 1,(M.out.below d M.out.lt).cell 2,(M.out.below d M.out.lt).cell 3,(M.out.below d M.out.lt).cell 4,(M.out.below d M.out.lt).cell 5⟩;have x0:Hid (Below O.heap.size O O.drew):=hid (Below.refl _ _).drew;have zr:=hid x4.out
 go_upto_region 3 with fail
 go_cut [10,11] (fun v0 v1 wx=>∃ (P I:Nat) (C G:Option Addr) (nm D J H:Nat),v0=.pointer (some ⟨P,0,none⟩)∧v1=.pointer (some ⟨I,0,none⟩)∧Hid (P≠I∧O.heap.size≤P∧O.heap.size≤I∧Blk wx P 59 #[.int .i64 a.t,.int .i64 a.n,.int .i64 a.a,.int .i64 a.b,.slice Al a.l.length cl,.slice Ai a.i.length ci,.slice k s.length cs,.slice C nm D]∧Blk wx I 59 #[.int .i64 b.t,.int .i64 b.n,.int .i64 b.a,.int .i64 b.b,.slice Bl b.l.length dl,.slice Bi b.i.length di,.slice k s.length cs,.slice G J H]∧Row wx wx.heap.size (.slice C nm D) Z∧Row wx wx.heap.size (.slice G J H) FB∧Below O.heap.size O wx))
 case first =>
  refine P9_ 8 (ksG (.int .i64 a.t) (.int .i64 a.n) (.int .i64 a.a) (.int .i64 a.b) (.slice Al a.l.length cl) (.slice Ai a.i.length ci) (.int .i64 b.t) (.int .i64 b.n) (.int .i64 b.a) (.int .i64 b.b) (.slice Bl b.l.length dl) (.slice Bi b.i.length di) (.slice k s.length cs) Z FB) frG k29_ k29_ (Vv5 (B1:=w.heap.size) (B2:=w.heap.size+1) ⟨rfl,rfl,rfl,?hK,?hA,?hB⟩) ?_
  case hK=>exact fun W d=>K1.out W (Z0_ x0.out (le_refl _) d)
  case hA=>exact fun W d=>xv.out W (HA.out.up (Z0_ x0.out (le_refl _) d)) (HR.out.up (Z0_ x0.out (le_refl _) d)) (HE.out.up (Z0_ x0.out (le_refl _) d))
  case hB=>exact fun W d=>xw.out W (x4.out.up (Z0_ x0.out (le_refl _) d)) (HR.out.up (Z0_ x0.out (le_refl _) d)) (HE.out.up (Z0_ x0.out (le_refl _) d))
  intro a' W d zi z6 ze x1 z1 y4;obtain ⟨P,y0,r⟩:∃ g,a'.tmps.getD 10 undef=.pointer (some ⟨g,0,none⟩)∧Blk W g 59 #[.int .i64 0,.int .i64 0,.int .i64 0,.int .i64 0,.slice none 0 0,.slice none 0 0,.slice none 0 0,.slice none 0 0]:=x1 6 10 y30_ k29_;obtain ⟨I,y1,B⟩:∃ g,a'.tmps.getD 11 undef=.pointer (some ⟨g,0,none⟩)∧Blk W g 59 #[.int .i64 0,.int .i64 0,.int .i64 0,.int .i64 0,.slice none 0 0,.slice none 0 0,.slice none 0 0,.slice none 0 0]:=x1 7 11 y30_ k29_;obtain ⟨C,nm,D,ud,oA⟩:∃ (A:Option Addr) (n c:Nat),a'.tmps.getD 25 undef=.agg #[.int .i64 a.t,.int .i64 a.n,.int .i64 a.a,.int .i64 a.b,.slice Al a.l.length cl,.slice Ai a.i.length ci,.slice k s.length cs,.slice A n c]∧W.ownsRow 0 3 1 (.slice A n c) Z.length (ints Z):=x1 2 25 y30_ k29_;obtain ⟨G,J,H,ug,oB⟩:∃ (A:Option Addr) (n c:Nat),a'.tmps.getD 28 undef=.agg #[.int .i64 b.t,.int .i64 b.n,.int .i64 b.a,.int .i64 b.b,.slice Bl b.l.length dl,.slice Bi b.i.length di,.slice k s.length cs,.slice A n c]∧W.ownsRow 0 3 1 (.slice A n c) FB.length (ints FB):=x1 5 28 y30_ k29_;have ub:a'.tmps.getD 23 undef=.agg #[.int .i64 a.t,.int .i64 a.n,.int .i64 a.a,.int .i64 a.b,.slice Al a.l.length cl,.slice Ai a.i.length ci]:=x1 0 23 y30_ k29_;have uc:a'.tmps.getD 24 undef=.slice k s.length cs:=x1 1 24 y30_ k29_;have ue:a'.tmps.getD 26 undef=.agg #[.int .i64 b.t,.int .i64 b.n,.int .i64 b.a,.int .i64 b.b,.slice Bl b.l.length dl,.slice Bi b.i.length di]:=x1 3 26 y30_ k29_;have uf:a'.tmps.getD 27 undef=.slice k s.length cs:=x1 4 27 y30_ k29_;have hne:P≠I:=z1 6 7 10 11 P I y30_ y30_ y30_ rfl rfl k29_ k29_ y0 y1;have z7:=Zd3 (N:=84) [(10,.pointer (some ⟨P,0,none⟩)),(11,.pointer (some ⟨I,0,none⟩)),(23,.agg #[.int .i64 a.t,.int .i64 a.n,.int .i64 a.a,.int .i64 a.b,.slice Al a.l.length cl,.slice Ai a.i.length ci]),(24,.slice k s.length cs),(25,.agg #[.int .i64 a.t,.int .i64 a.n,.int .i64 a.a,.int .i64 a.b,.slice Al a.l.length cl,.slice Ai a.i.length ci,.slice k s.length cs,.slice C nm D]),(26,.agg #[.int .i64 b.t,.int .i64 b.n,.int .i64 b.a,.int .i64 b.b,.slice Bl b.l.length dl,.slice Bi b.i.length di]),(27,.slice k s.length cs),(28,.agg #[.int .i64 b.t,.int .i64 b.n,.int .i64 b.a,.int .i64 b.b,.slice Bl b.l.length dl,.slice Bi b.i.length di,.slice k s.length cs,.slice G J H])] rfl zi z6 ze k29_ (by
   intro p hp;simp only [List.mem_cons,List.not_mem_nil,or_false] at hp;rcases hp with rfl | rfl | rfl | rfl | rfl | rfl | rfl | rfl<;>assumption)
  have y6:O.heap.size≤P:=by
   obtain ⟨g,e,hg⟩:=y4 6 10 y30_ rfl k29_;rw [y0] at e;exact z18_
  have y7:O.heap.size≤I:=by
   obtain ⟨g,e,hg⟩:=y4 7 11 y30_ rfl k29_;rw [y1] at e;exact z18_
  have yz:Below O.heap.size O W:=Z0_ x0.out (le_refl _) d;have xh : 3 ≠ 59 := y30_;have zl:=T6_ (Yx0 r (.int .i64 a.t) (.int .i64 a.n) (.int .i64 a.a) (.int .i64 a.b) (.slice Al a.l.length cl) (.slice Ai a.i.length ci) (.slice k s.length cs) (.slice C nm D)) hne (.int .i64 b.t) (.int .i64 b.n) (.int .i64 b.a) (.int .i64 b.b) (.slice Bl b.l.length dl) (.slice Bi b.i.length di) (.slice k s.length cs) (.slice G J H);have zm:=Yx0 (T6_ B (Ne.symm hne) (.int .i64 a.t) (.int .i64 a.n) (.int .i64 a.a) (.int .i64 a.b) (.slice Al a.l.length cl) (.slice Ai a.i.length ci) (.slice k s.length cs) (.slice C nm D)) (.int .i64 b.t) (.int .i64 b.n) (.int .i64 b.a) (.int .i64 b.b) (.slice Bl b.l.length dl) (.slice Bi b.i.length di) (.slice k s.length cs) (.slice G J H);have zn:=T7_ (T7_ oA r xh (.int .i64 a.t) (.int .i64 a.n) (.int .i64 a.a) (.int .i64 a.b) (.slice Al a.l.length cl) (.slice Ai a.i.length ci) (.slice k s.length cs) (.slice C nm D)) (T6_ B (Ne.symm hne) (.int .i64 a.t) (.int .i64 a.n) (.int .i64 a.a) (.int .i64 a.b) (.slice Al a.l.length cl) (.slice Ai a.i.length ci) (.slice k s.length cs) (.slice C nm D)) xh (.int .i64 b.t) (.int .i64 b.n) (.int .i64 b.a) (.int .i64 b.b) (.slice Bl b.l.length dl) (.slice Bi b.i.length di) (.slice k s.length cs) (.slice G J H);have zo:=T7_ (T7_ oB r xh (.int .i64 a.t) (.int .i64 a.n) (.int .i64 a.a) (.int .i64 a.b) (.slice Al a.l.length cl) (.slice Ai a.i.length ci) (.slice k s.length cs) (.slice C nm D)) (T6_ B (Ne.symm hne) (.int .i64 a.t) (.int .i64 a.n) (.int .i64 a.a) (.int .i64 a.b) (.slice Al a.l.length cl) (.slice Ai a.i.length ci) (.slice k s.length cs) (.slice C nm D)) xh (.int .i64 b.t) (.int .i64 b.n) (.int .i64 b.a) (.int .i64 b.b) (.slice Bl b.l.length dl) (.slice Bi b.i.length di) (.slice k s.length cs) (.slice G J H);have yy:=Zq3 (Zq3 yz y6 (.int .i64 a.t) (.int .i64 a.n) (.int .i64 a.a) (.int .i64 a.b) (.slice Al a.l.length cl) (.slice Ai a.i.length ci) (.slice k s.length cs) (.slice C nm D)) y7 (.int .i64 b.t) (.int .i64 b.n) (.int .i64 b.a) (.int .i64 b.b) (.slice Bl b.l.length dl) (.slice Bi b.i.length di) (.slice k s.length cs) (.slice G J H);have HF:=hid (And.intro hne (And.intro y6 (And.intro y7 (And.intro zl (And.intro zm (And.intro (Row.of_own zn rfl) (And.intro (Row.of_own zo rfl) yy)))))));have w2:=r.cell 0;have v5:=r.frozen 0;have we:=B.cell 0;have vg:=B.frozen 0;have w4:=r.cell 1;have v6:=r.frozen 1;have wf:=B.cell 1;have vh:=B.frozen 1;have w8:=r.cell 2;have v7:=r.frozen 2;have wg:=B.cell 2;have vk:=B.frozen 2;have w9:=r.cell 3;have v9:=r.frozen 3;have wh:=B.cell 3;have vl:=B.frozen 3;have wa:=r.cell 4;have vc:=r.frozen 4;have wi:=B.cell 4;have vm:=B.frozen 4;have wb:=r.cell 5;have vd:=r.frozen 5;have wj:=B.cell 5;have vn:=B.frozen 5;have wc:=r.cell 6;have ve:=r.frozen 6;have wk:=B.cell 6;have vp:=B.frozen 6;have wd:=r.cell 7;have vf:=r.frozen 7;have wl:=B.cell 7;have vq:=B.frozen 7;have vy:I≠P:=Ne.symm hne;clear ze x1 z1 zi z6 y0 y1 ud ug ub uc ue uf r B oA oB d y4 zl zm zn zo yy y6 y7 yz xh;rw [z7];clear z7;simp only [show List.range 84=[0,1,2,3,4,5,6,7,8,9,10,11,12,13,14,15,16,17,18,19,20,21,22,23,24,25,26,27,28,29,30,31,32,33,34,35,36,37,38,39,40,41,42,43,44,45,46,47,48,49,50,51,52,53,54,55,56,57,58,59,60,61,62,63,64,65,66,67,68,69,70,71,72,73,74,75,76,77,78,79,80,81,82,83] from by decide,List.map_cons,List.map_nil,List.lookup_cons,List.lookup_nil];go_simp;go_wp2
  go_meet
  exact ⟨P,I,C,G,nm,D,J,H,rfl,rfl,HF⟩
 case rest =>
  obtain ⟨P,I,C,G,nm,D,J,H,rfl,rfl,HX⟩:=hcut;have xa:=hid HX.out.2.2.2.2.2.2.2;have xt:=hid (HR.out.up xa.out);have yd:=hid (HA.out.up xa.out);have yf:=hid (x4.out.up xa.out);have yj:=hid (HE.out.up xa.out);have Q:=hid HX.out.2.2.2.1;have xx:=hid HX.out.2.2.2.2.1;have yk:=hid HX.out.2.2.2.2.2.1;have ym:=hid HX.out.2.2.2.2.2.2.1;have ys:=hid (Z0_ u8.out (le_refl _) xa.out);have zh:s.length≤1048576:=j29_;have n0:=Q.out.cell 0;have n1:=Q.out.cell 1;have n2:=Q.out.cell 2;have n3:=Q.out.cell 3;have n4:=Q.out.cell 4;have n5:=Q.out.cell 5;have n6:=Q.out.cell 6;have n7:=Q.out.cell 7;clear HX K1 xv xw x0 zr K M HA x4 HE xa HR
  go_wp2_with fail
  refine (S4_ a.n _ _ _ _ _ _ _ s _ xt.out zh).mono ?_;rintro e w5 ⟨vo,rfl,yc,V⟩;rw [Ho.out] at yc;have u6:=hid (Z0_ ys.out (le_refl _) V);have u0:=hid yc;have xu:=hid (xt.out.up V);have ye:=hid (yd.out.up V);have yg:=hid (yf.out.up V);have xr:=hid (yj.out.up V);have xm:=hid (Q.out.below V Q.out.lt);have x6:=hid (xx.out.below V xx.out.lt);have yl:=hid (yk.out.up V);have yn:=hid (ym.out.up V);obtain ⟨Ao,co,rfl,_⟩:=yc;clear n0 n1 n2 n3 n4 n5 n6 n7 V xt yd yf yj Q xx yk ym ys;have xd:=(mayI_iff.1 (V3_ HC.out.ia)).1;obtain ⟨n,yb⟩:∃ n:Nat,nN a=n:=⟨_,rfl⟩;have hn:s.length+o.length=n:=by rw [← Ho.out,← yb];exact Vv6 xd xl.out
  rw [yb] at ut uu zd;have vz:IntKind.i64.wrap ((s.length:Int)+(o.length:Int))=(n:Int):=k30_;have uh:Z.length≤64:=by rw [← xf];exact Nat.le_trans (V1_ (A6_ j29_)) j29_
  have ui:FB.length≤64:=by rw [← xg];exact Nat.le_trans (V1_ (A6_ (by rw [HC.out.nn];omega))) (by rw [HC.out.nn];omega)
  obtain ⟨F,hF⟩:∃ F:Int→Int→Bool,F=fun x y=>hasB Z x || indT a (Y7_ (Z4_ s [y]) [x]):=⟨_,rfl⟩;obtain ⟨T,hT⟩:∃ T:Int→Int→Bool,T=fun x y=>hasB FB x || indT b (Y7_ (Z4_ s [y]) [x]):=⟨_,rfl⟩;have Hplain:Hid (V2_ F T (J5_ s o s.length 0) n=adjG a b s):=hid (by rw [hF,hT,← xf,← xg,← Ho.out,← yb];exact Xr4 HC.out);have u1:Hid (∀ W,Below w5.heap.size w5 W→∀ x y:Int,Calls Tryz.prog 44 #[.agg #[.int .i64 a.t,.int .i64 a.n,.int .i64 a.a,.int .i64 a.b,.slice Al a.l.length cl,.slice Ai a.i.length ci,.slice k s.length cs,.slice C nm D],.int .i64 x,.int .i64 y] W (Says W (F x y))):=hid fun W d x y=>by
   rw [hF];exact S5_ E a _ _ _ _ _ _ _ _ s Z x y W (ye.out.up d) yv.out (xu.out.up d) (yl.out.up d) j29_ uh (xr.out.up d)
  have yp:Hid (∀ W,Below w5.heap.size w5 W→∀ x y:Int,Calls Tryz.prog 44 #[.agg #[.int .i64 b.t,.int .i64 b.n,.int .i64 b.a,.int .i64 b.b,.slice Bl b.l.length dl,.slice Bi b.i.length di,.slice k s.length cs,.slice G J H],.int .i64 x,.int .i64 y] W (Says W (T x y))):=hid fun W d x y=>by
   rw [hT];exact S5_ E b _ _ _ _ _ _ _ _ s FB x y W (yg.out.up d) yw.out (xu.out.up d) (yn.out.up d) j29_ ui (xr.out.up d)
  have u2:Hid (∀ i,i<s.length→∃ Y:Nat,s.getD i 0=(Y:Int)∧Y<n∧(Y:Int)∈s):=hid fun i hi=>by
   have hm:s.getD i 0∈s:=by rw [show s.getD i 0=s[i] by simp [List.getD,hi]];exact List.getElem_mem hi
   have S:=xl.out.2 _ hm;exact ⟨(s.getD i 0).toNat,j29_,j29_,by rw [Int.toNat_of_nonneg S.1];exact hm⟩
  have zy:Hid (∀ j,j<o.length→∃ X:Nat,o.getD j 0=(X:Int)∧X<n∧(X:Int)∉s):=hid fun j hj=>by
   have hm:o.getD j 0∈o:=by rw [show o.getD j 0=o[j] by simp [List.getD,hj]];exact List.getElem_mem hj
   have S:=yu.out.2 _ hm;refine ⟨(o.getD j 0).toNat,j29_,j29_,?_⟩;rw [Int.toNat_of_nonneg S.1];rw [← Ho.out,Y3_ (J9_ _) xl.out.1] at hm;rw [← Ho.out];exact hm.2
  have zt:=hid xf;have zv:=hid xg;clear ye yg xr hF hT xf xg xd yv yw HC Ho xl yu zh;obtain ⟨i0,hi,uy,uz,hz2⟩:=info_parts Yo1;obtain ⟨k0,ki,kz0,kz1,kz2⟩:=info_parts info3
  go_wp2_with (at_make;refine wpList_make_full w5 rfl _ _ 22 rfl w5.heap.size 26 i0 (.slice none 0 0) 1 k29_ hi uy uz .i64 .i64 _ _ n rfl rfl z31_ z31_ j35_ k31_ (le_refl _) ?_)
  intro w6 zf z8;obtain ⟨zp,zk⟩:=AdjM.fresh (F:=F) (T:=T) (Yy2 (z:=.slice none 0 0) rfl zf (fun _=>undef));have yq:Hid (AdjM w6 w5.heap.size zp (V2_ F T (J5_ s o 0 0) n)∧Below w5.heap.size w5 w6):=hid ⟨by rw [Yd6];exact zk,(Below.refl _ w5).grown z8 (le_refl _) (fun i hi=>by cases hi)⟩;clear zf z8 zk;go_wp2
  go_loopw [39] (fun vi wr=>∃ (i:Nat) (vs:List Value),vi=.int .i64 (i:Int)∧i≤s.length∧Hid (AdjM wr w5.heap.size vs (V2_ F T (J5_ s o i 0) n)∧Below w5.heap.size w5 wr)) (fun vi _=>s.length - (intOf vi).toNat)
  case atStart=>exact ⟨0,zp,rfl,Nat.zero_le _,yq⟩
  case round =>
   obtain ⟨i,vs,rfl,vw,U⟩:=hrel;clear yq;by_cases y9:i<s.length
   ·obtain ⟨v3,hA,z5⟩:=Row.nthV xu.out y9
    subst hA;have us:(i:Int)<(s.length:Int):=j29_;have gs:=z5 wr U.out.2;obtain ⟨Y,hY,y2,z0⟩:∃ Y:Nat,s.getD i 0=(Y:Int)∧Y<n∧(Y:Int)∈s:=u2.out i y9;rw [hY] at gs;have u5:=hid hY;have zx:Hid (∀ j,j<o.length→∃ X:Nat,o.getD j 0=(X:Int)∧X<n∧(Y:Int)≠(X:Int)):=hid fun j hj=>by
     obtain ⟨X,S,h2,h3⟩:=zy.out j hj;exact ⟨X,S,h2,fun e=>h3 (e▸z0)⟩
    have vu:(Y:Int)<(n:Int):=j29_;have w1:IntKind.i64.wrap ((i:Int)+1)=(i:Int)+1:=k30_;have yr:=U;clear z5 hY z0 U;go_wp2
    go_loopw [45] (fun vj wr=>∃ (j:Nat) (vs:List Value),vj=.int .i64 (j:Int)∧j≤o.length∧Hid (AdjM wr w5.heap.size vs (V2_ F T (J5_ s o i j) n)∧Below w5.heap.size w5 wr)) (fun vj _=>o.length - (intOf vj).toNat)
    case atStart=>exact ⟨0,vs,rfl,Nat.zero_le _,yr⟩
    case round =>
     obtain ⟨j,zq,rfl,vx,x9⟩:=hrel;clear yr gs;by_cases y8:j<o.length
     ·obtain ⟨ao,hA,z4⟩:=Row.nthV u0.out y8
      subst hA;have uo:(j:Int)<(o.length:Int):=j29_;have gx:=z4 wr x9.out.2;obtain ⟨X,hX,hXn,hne⟩:∃ X:Nat,o.getD j 0=(X:Int)∧X<n∧(Y:Int)≠(X:Int):=zx.out j y8;rw [hX] at gx;have HL2:Hid (J5_ s o i (j+1)=J5_ s o i j ++ [((Y:Int),(X:Int))]):=hid (by rw [Yd7 y8,u5.out,hX]);have vr:(J5_ s o i j).length≤4160:=Ys6 j29_ j29_ j29_;have yo:=hid x9.out.1;have xi:=hid x9.out.2;clear x9;generalize J5_ s o i j=L at *
      have vt:(X:Int)<(n:Int):=j29_;have w0:IntKind.i64.wrap ((j:Int)+1)=(j:Int)+1:=k30_;have R:=hid (xm.out.below xi.out xm.out.lt);have n0:=R.out.cell 0;have n1:=R.out.cell 1;have n2:=R.out.cell 2;have n3:=R.out.cell 3;have n4:=R.out.cell 4;have n5:=R.out.cell 5;have n6:=R.out.cell 6;have n7:=R.out.cell 7;have yi:=hid (u1.out wr xi.out (X:Int) (Y:Int));clear z4 hX
      go_wp2_with fail
      refine yi.out.mono ?_;rintro e w7 ⟨rfl,y3⟩;have xb:=hid (yo.out.below y3);have x2:=hid (Z0_ xi.out (le_refl _) y3);clear y3 yo xi yi R gx n0 n1 n2 n3 n4 n5 n6 n7;rcases hf:F (X:Int) (Y:Int) with _ | _
      ·have x5:=hid xb.out
       rw [← Xr1 hf] at x5;have x8:=hid x2.out;have m:=hid (x6.out.below x2.out x6.out.lt);have m0:=m.out.cell 0;have m1:=m.out.cell 1;have m2:=m.out.cell 2;have m3:=m.out.cell 3;have m4:=m.out.cell 4;have m5:=m.out.cell 5;have m6:=m.out.cell 6;have m7:=m.out.cell 7;have xe:=hid (yp.out w7 x2.out (X:Int) (Y:Int))
       go_wp2_with fail
       refine xe.out.mono ?_;rintro e v2 ⟨rfl,x7⟩;have HM10:=hid (x5.out.below x7);have HB10:=hid (Z0_ x8.out (le_refl _) x7);clear x7 m0 m1 m2 m3 m4 m5 m6 m7 x5 x8 xb x2 xe m hf;exact q1_
      ·have yx:=xb.out.at_ (i:=Y) (by rw [L9_];exact y2)
       rw [Yd5 y2] at yx;obtain ⟨A8,c8,xq,gc,gf,zc⟩:=yx;have hql:(V5_ F T L (Y:Int)).length≤8320:=by have:=T8_ F T (Y:Int) L;omega
       generalize hq:V5_ F T L (Y:Int)=q at *
       have zj:=x2.out.size;have yt:Hid ((V2_ F T L n).set Y (q ++ [(X:Int)])=J4_ F T L (Y:Int) (X:Int) n):=hid (by rw [← hq];exact Xc3 y2 hf);clear hq
       go_wp2_with (at_builtin;refine wpList_append_lies _ rfl _ _ 26 rfl (w5.heap.size+1) 3 k0 (.int .i64 0) 1 8 k29_ ki kz0 kz1 kz2 rfl y30_ _ q.length (ints q) rfl (zc.alloc _) _ 1 1 [.int .i64 (X:Int)] rfl rfl (Zs1 _ _ _) (by intro u hu;simp at hu;subst hu;rfl) y30_ k31_ j29_ (by simp;exact zj) _ rfl ?_)
       intro g8 v4 v8 zg y5 z2 _;have xs:=hid (AdjM.more xb.out xq zg y5 z2);have xk:=hid (AdjM.mid xb.out xq _ y5);have u9:v8.cell? ⟨w5.heap.size,Y,none⟩=some (.slice A8 q.length c8):=by rw [xk.out.1.cell];simpa using xq
       have ua:=xk.out.1.frozen Y;clear zg y5 z2;have x5:=hid (xs.out.1);rw [yt.out] at x5;have x8:=hid (x2.out.trans (xs.out.2));have yh:=hid (x2.out.trans (xk.out.2));have m:=hid (x6.out.below yh.out x6.out.lt);have m0:=m.out.cell 0;have m1:=m.out.cell 1;have m2:=m.out.cell 2;have m3:=m.out.cell 3;have m4:=m.out.cell 4;have m5:=m.out.cell 5;have m6:=m.out.cell 6;have m7:=m.out.cell 7;have uj:I≠w5.heap.size:=Nat.ne_of_lt x6.out.lt;have vv:w5.heap.size≠I:=Ne.symm uj;have xe:=hid (yp.out _ x8.out (X:Int) (Y:Int))
       go_wp2_with fail
       refine xe.out.mono ?_;rintro e v2 ⟨rfl,x7⟩;have HM10:=hid (x5.out.below x7);have HB10:=hid (Z0_ x8.out (le_refl _) x7);clear x7 m0 m1 m2 m3 m4 m5 m6 m7 x5 x8 xb x2 xe m hf xs xk yt yh u9 ua gc gf zc hql zj xq;exact q1_
     ·have un:j=o.length:=by omega
      have uo:¬ (j:Int)<(o.length:Int):=j29_;have u3:Hid (AdjM wr w5.heap.size zq (V2_ F T (J5_ s o (i+1) 0) n)∧Below w5.heap.size w5 wr):=hid (by
       rw [← Yd8 y9,← un];exact x9.out)
      clear x9;go_wp2
      go_roundw
      case rel=>exact ⟨i+1,zq,y31_,j29_,u3⟩
      case measure=>simp [intOf];omega
   ·have um:i=s.length:=by omega
    have us:¬ (i:Int)<(s.length:Int):=j29_;have R:=hid (xm.out.below U.out.2 xm.out.lt);have m:=hid (x6.out.below U.out.2 x6.out.lt);have n7:=R.out.cell 7;have m7:=m.out.cell 7;have xj:Hid (Below wr.heap.size wr wr.drew):=hid (Below.refl _ _).drew;have zz:Hid (Rows2 wr.drew wr.drew.heap.size (.slice (some ⟨w5.heap.size,0,none⟩) n n) (adjG a b s)):=hid (by
     have h:=U.out.1.rows (by rw [L9_];omega);rw [L9_,um,Hplain.out] at h;exact h.up xj.out)
    have zu:Hid (Row wr.drew wr.drew.heap.size (.slice C nm D) (addG a s)):=hid (by rw [zt.out];exact (yl.out.up U.out.2).up xj.out);have zw:Hid (Row wr.drew wr.drew.heap.size (.slice G J H) (addG b s)):=hid (by rw [zv.out];exact (yn.out.up U.out.2).up xj.out);have zs:=hid (Z0_ (Z0_ u6.out (le_refl _) U.out.2) (le_refl _) xj.out);clear U
    go_upto_region 18 with fail
    go_region
    all_goals
     go_wp2;refine bodyPost_ret (v:=.tuple #[.slice (some ⟨w5.heap.size,0,none⟩) n n,.slice C nm D,.slice G J H,.int .i64 0]) (by simp [results,Tryz.results19,go_sem]) rfl ?_;exact ⟨_,_,_,rfl,zz.out,zu.out,zw.out,zs.out⟩
end Wp
end Go.Proofs.YtnbcaibflhgdoaaGreatDoor
