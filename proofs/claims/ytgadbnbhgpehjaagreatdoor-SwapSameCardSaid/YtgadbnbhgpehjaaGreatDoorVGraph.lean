/- The program's May and Graph of layer 13, walked (VGraph). -/
import Derived.Test.YtgadbnbhgpehjaaGreatDoorVSwap
import Derived.Test.YtgadbnbhgpehjaaGreatDoorVLaw
import Derived.Test.YtgadbnbhgpehjaaGreatDoorZW
import Derived.Test.YtgadbnbhgpehjaaGreatDoorVGr3
import Derived.Deep.DeepCutAuto
import Derived.Deep.AppendLies
import Derived.Deep.RegionHeld3
set_option maxHeartbeats 16000000
set_option maxRecDepth 100000
open Go.Lib (hid)
open Nat (le_refl)
namespace Go.Proofs.YtgadbnbhgpehjaaGreatDoor
open Go Go.RowKit
namespace Wp
noncomputable def mayS (a b:Mat) (s:List Int):Bool:=decide (a.n=b.n) && (indT a s && indT b s)
theorem mayS_iff {a b:Mat} {s:List Int}:mayS a b s=true↔Common a b s:=by
 unfold mayS
 rw [Bool.and_eq_true,Bool.and_eq_true,decide_eq_true_iff]
 exact ⟨fun h=>⟨h.1,h.2.1,h.2.2⟩,fun h=>⟨h.n,h.ia,h.ib⟩⟩
def G6_ (w:World) (adj:List (List Int)) (f t:List Int) (er:Int) (e:Ending) (w':World):Prop:=∃ va vf vt,e=.returned (.tuple #[va,vf,vt,.int .i64 er])∧Rows2 w' w'.heap.size va adj∧Row w' w'.heap.size vf f∧Row w' w'.heap.size vt t∧Below w.heap.size w w'
theorem P9_ (E:Nat→Addr) (a b:Mat) (va vb sv:Value) (s:List Int) (w:World) (ha:MatV w w.heap.size va a) (hb:MatV w w.heap.size vb b) (hsa:Sml a) (hsb:Sml b) (hr:Row w w.heap.size sv s) (hsl:s.length≤1048576) (hE:Env E w) :
  Calls Tryz.prog 13 #[va,vb,sv] w (Says w (mayS a b s)):=by
 have Ha0:=hid ha
 have Hb0:=hid hb
 have Hsa:=hid hsa
 have Hsb:=hid hsb
 have HE0:=hid hE
 have Hr0:=hid hr
 obtain ⟨la,ia,hva,hla,hia⟩:=ha.open
 obtain ⟨lb,ib,hvb,hlb,hib⟩:=hb.open
 obtain ⟨Al,cl,rfl,_⟩:=hla
 obtain ⟨Ai,ci,rfl,_⟩:=hia
 obtain ⟨Bl,dl,rfl,_⟩:=hlb
 obtain ⟨Bi,di,rfl,_⟩:=hib
 obtain ⟨As,cs,hsv,_⟩:=id hr
 subst hva hvb hsv
 obtain ⟨W2,hW2⟩:∃ W2,W2=(w.alloc (.cells #[.int .i64 a.t,.int .i64 a.n,.int .i64 a.a,.int .i64 a.b,.slice Al a.l.length cl,.slice Ai a.i.length ci] 25)).alloc (.cells #[.int .i64 b.t,.int .i64 b.n,.int .i64 b.a,.int .i64 b.b,.slice Bl b.l.length dl,.slice Bi b.i.length di] 25):=⟨_,rfl⟩
 have HW2:=hid hW2
 have hb2:Below w.heap.size w W2:=by rw [hW2];exact ((Below.refl _ w).alloc (le_refl _) _).alloc (by simp) _
 have hka:Blk W2 w.heap.size 25 #[.int .i64 a.t,.int .i64 a.n,.int .i64 a.a,.int .i64 a.b,.slice Al a.l.length cl,.slice Ai a.i.length ci]:=by rw [hW2];exact (Blk.new w _ _).alloc _
 have hkb:Blk W2 (w.heap.size+1) 25 #[.int .i64 b.t,.int .i64 b.n,.int .i64 b.a,.int .i64 b.b,.slice Bl b.l.length dl,.slice Bi b.i.length di]:=by
  rw [hW2]
  have:=Blk.new (w.alloc (.cells #[.int .i64 a.t,.int .i64 a.n,.int .i64 a.a,.int .i64 a.b,.slice Al a.l.length cl,.slice Ai a.i.length ci] 25)) 25 #[.int .i64 b.t,.int .i64 b.n,.int .i64 b.a,.int .i64 b.b,.slice Bl b.l.length dl,.slice Bi b.i.length di]
  simpa using this
 have Hb2:=hid hb2
 have Hka:=hid hka
 have Hkb:=hid hkb
 have HA:=hid (ha.up hb2)
 have HB:=hid (hb.up hb2)
 have HR:=hid (hr.up hb2)
 have HE:=hid (hE.up hb2)
 obtain ⟨x,hx⟩:∃ x,indT a s=x:=⟨_,rfl⟩
 obtain ⟨y,hy⟩:∃ y,indT b s=y:=⟨_,rfl⟩
 have HX:=hid hx
 have HY:=hid hy
 have hres:mayS a b s=(decide (a.n=b.n) && (x && y)):=by unfold mayS;rw [hx,hy]
 rw [hres]
 clear hW2 hb2 hka hkb ha hb hsa hsb hr hE hx hy hres
 by_cases hn:a.n=b.n
 ·have hne:(a.n==b.n)=true:=by simpa using hn
  rw [decide_eq_true hn,Bool.true_and]
  clear hn
  go_enter Tryz.func13,Tryz.ntmps13
  go_wp2_with fail
  rw [← HW2.out]
  refine (Zj4 E a _ _ s _ HA.out Hsa.out HR.out hsl HE.out).mono ?_
  rintro e w3 ⟨rfl,hb3⟩
  rw [HX.out]
  have Hb3:=hid (Z0_ Hb2.out (le_refl _) hb3)
  have Hkb3:=hid (Hkb.out.below hb3 Hkb.out.lt)
  have HB3:=hid (HB.out.up hb3)
  have HR3:=hid (HR.out.up hb3)
  have HE3:=hid (HE.out.up hb3)
  clear hb3
  cases x
  ·go_wp2
   go_ret
   exact ⟨rfl,Hb3.out⟩
  ·have n0:=Hkb3.out.cell 0
   have n1:=Hkb3.out.cell 1
   have n2:=Hkb3.out.cell 2
   have n3:=Hkb3.out.cell 3
   have n4:=Hkb3.out.cell 4
   have n5:=Hkb3.out.cell 5
   go_wp2_with fail
   refine (Zj4 E b _ _ s _ HB3.out Hsb.out HR3.out hsl HE3.out).mono ?_
   rintro e w4 ⟨rfl,hb4⟩
   rw [HY.out]
   have Hb4:=hid (Z0_ Hb3.out (le_refl _) hb4)
   clear hb4 n0 n1 n2 n3 n4 n5
   go_wp2
   go_ret
   exact ⟨rfl,Hb4.out⟩
 ·have hne:(a.n==b.n)=false:=by simpa using hn
  rw [decide_eq_false hn,Bool.false_and]
  clear hn
  go_enter Tryz.func13,Tryz.ntmps13
  go_wp2
  rw [← HW2.out]
  go_ret
  exact ⟨rfl,Hb2.out⟩
theorem Zw5 (E:Nat→Addr) (a b:Mat) (va vb sv:Value) (s:List Int) (w:World) (ha:MatV w w.heap.size va a) (hb:MatV w w.heap.size vb b) (hsa:Sml a) (hsb:Sml b) (hr:Row w w.heap.size sv s) (hsl:s.length≤1048576) (hE:Env E w) (hm:mayS a b s=false) :
  Calls Tryz.prog 11 #[va,vb,sv] w (G6_ w [] [] [] 1):=by
 have HM:Hid (∀ (va vb sv:Value) (W:World),MatV W W.heap.size va a→MatV W W.heap.size vb b→Row W W.heap.size sv s→Env E W→Calls Tryz.prog 13 #[va,vb,sv] W (Says W false)):=hid fun va vb sv W h1 h2 h3 h4=>by rw [← hm];exact P9_ E a b va vb sv s W h1 h2 hsa hsb h3 hsl h4
 obtain ⟨la,ia,hva,hla,hia⟩:=ha.open
 obtain ⟨lb,ib,hvb,hlb,hib⟩:=hb.open
 obtain ⟨Al,cl,rfl,_⟩:=hla
 obtain ⟨Ai,ci,rfl,_⟩:=hia
 obtain ⟨Bl,dl,rfl,_⟩:=hlb
 obtain ⟨Bi,di,rfl,_⟩:=hib
 obtain ⟨As,cs,hsv,_⟩:=id hr
 subst hva hvb hsv
 obtain ⟨W2,hW2⟩:∃ W2,W2=(w.alloc (.cells #[.int .i64 a.t,.int .i64 a.n,.int .i64 a.a,.int .i64 a.b,.slice Al a.l.length cl,.slice Ai a.i.length ci] 25)).alloc (.cells #[.int .i64 b.t,.int .i64 b.n,.int .i64 b.a,.int .i64 b.b,.slice Bl b.l.length dl,.slice Bi b.i.length di] 25):=⟨_,rfl⟩
 have HW2:=hid hW2
 have hb2:Below w.heap.size w W2:=by rw [hW2];exact ((Below.refl _ w).alloc (le_refl _) _).alloc (by simp) _
 have Hb2:=hid hb2
 have HA:=hid (ha.up hb2)
 have HB:=hid (hb.up hb2)
 have HR:=hid (hr.up hb2)
 have HE:=hid (hE.up hb2)
 clear hW2 hb2 ha hb hsa hsb hr hE hm
 go_enter Tryz.func11,Tryz.ntmps11
 go_wp2_with fail
 rw [← HW2.out]
 refine (HM.out _ _ _ _ HA.out HB.out HR.out HE.out).mono ?_
 rintro e w3 ⟨rfl,hb3⟩
 have Hb3:=hid (Z0_ Hb2.out (le_refl _) hb3)
 clear hb3
 go_wp2
 refine bodyPost_ret (v:=.tuple #[.slice none 0 0,.slice none 0 0,.slice none 0 0,.int .i64 1]) (by simp [results,Tryz.results11,go_sem]) rfl ?_
 exact ⟨.slice none 0 0,.slice none 0 0,.slice none 0 0,rfl,⟨none,0,rfl,⟨le_refl _,by decide,fun _=>rfl⟩,fun k hk=>absurd hk (by simp)⟩,Row.nil_ _ _,Row.nil_ _ _,Hb3.out⟩
def set8 (w:World) (g:Nat) (c0 c1 c2 c3 c4 c5 c6 c7:Value):World:=(((((((w.setCell ⟨g,0,none⟩ c0).setCell ⟨g,1,none⟩ c1).setCell ⟨g,2,none⟩ c2).setCell ⟨g,3,none⟩ c3).setCell ⟨g,4,none⟩ c4).setCell ⟨g,5,none⟩ c5).setCell ⟨g,6,none⟩ c6).setCell ⟨g,7,none⟩ c7
theorem Zc4 (w:World) (g:Nat) (c0 c1 c2 c3 c4 c5 c6 c7:Value):w.grownBy (set8 w g c0 c1 c2 c3 c4 c5 c6 c7) (some g) :=
 X2_ (X2_ (X2_ (X2_ (X2_ (X2_ (X2_ (Y6_ w g 0 c0) (Y6_ _ g 1 c1)) (Y6_ _ g 2 c2)) (Y6_ _ g 3 c3)) (Y6_ _ g 4 c4)) (Y6_ _ g 5 c5)) (Y6_ _ g 6 c6)) (Y6_ _ g 7 c7)
theorem Yq9 {w:World} {g:Nat} {t:TypeId} {z0 z1 z2 z3 z4 z5 z6 z7:Value} (h:Blk w g t #[z0,z1,z2,z3,z4,z5,z6,z7]) (c0 c1 c2 c3 c4 c5 c6 c7:Value):Blk (set8 w g c0 c1 c2 c3 c4 c5 c6 c7) g t #[c0,c1,c2,c3,c4,c5,c6,c7]:=by
 have h:=(((((((h.set_ 0 c0).set_ 1 c1).set_ 2 c2).set_ 3 c3).set_ 4 c4).set_ 5 c5).set_ 6 c6).set_ 7 c7
 unfold set8
 simpa only [List.setIfInBounds_toArray,List.set_cons_zero,List.set_cons_succ] using h
theorem Zc5 {w0 w:World} {B g:Nat} (h:Below B w0 w) (hg:B≤g) (c0 c1 c2 c3 c4 c5 c6 c7:Value):Below B w0 (set8 w g c0 c1 c2 c3 c4 c5 c6 c7) :=
 (((((((h.setCell (p:=⟨g,0,none⟩) hg c0).setCell (p:=⟨g,1,none⟩) hg c1).setCell (p:=⟨g,2,none⟩) hg c2).setCell (p:=⟨g,3,none⟩) hg c3).setCell (p:=⟨g,4,none⟩) hg c4).setCell (p:=⟨g,5,none⟩) hg c5).setCell (p:=⟨g,6,none⟩) hg c6).setCell (p:=⟨g,7,none⟩) hg c7
theorem W9_ {w:World} {g k:Nat} {t:TypeId} {cs:Array Value} (h:Blk w k t cs) (hne:k≠g) (c0 c1 c2 c3 c4 c5 c6 c7:Value):Blk (set8 w g c0 c1 c2 c3 c4 c5 c6 c7) k t cs:=h.grown (Zc4 w g c0 c1 c2 c3 c4 c5 c6 c7) (fun e=>hne (Option.some.inj e))
theorem Xt9 {w:World} {base:Nat} {v:Value} {n:Nat} {xs:List Value} (h:w.ownsRow base 3 1 v n xs) {g:Nat} {t:TypeId} {cs:Array Value} (k:Blk w g t cs) (ht : 3 ≠ t):v.ownBlock=none∨v.ownBlock≠some g:=by
 rcases h.2 with ⟨rfl,_⟩ | ⟨g',cap,cur,rfl,_,hg,_⟩
 ·exact .inl rfl
 ·right
  intro e
  have e:g'=g:=by simpa [Value.ownBlock] using e
  subst e
  unfold Blk at k
  rw [hg] at k
  injection k with k
  injection k with _ k
  exact ht k
theorem Zz0 {w:World} {base:Nat} {v:Value} {n:Nat} {xs:List Value} (h:w.ownsRow base 3 1 v n xs) {g:Nat} {t:TypeId} {cs:Array Value} (k:Blk w g t cs) (ht : 3 ≠ t) (c0 c1 c2 c3 c4 c5 c6 c7:Value):(set8 w g c0 c1 c2 c3 c4 c5 c6 c7).ownsRow base 3 1 v n xs:=h.kept (Zc4 w g c0 c1 c2 c3 c4 c5 c6 c7) (Xt9 h k ht)
structure AdjM (w:World) (G:Nat) (vs:List Value) (pp:List (List Int)):Prop where
 blk:Blk w G 26 vs.toArray
 fam:Fam w (G+1) vs pp
theorem AdjM.below {w w':World} {G:Nat} {vs:List Value} {pp:List (List Int)} (h:AdjM w G vs pp) (hb:Below w.heap.size w w'):AdjM w' G vs pp:=⟨h.blk.below hb h.blk.lt,h.fam.bel hb⟩
theorem AdjM.rows {w:World} {G:Nat} {vs:List Value} {pp:List (List Int)} (h:AdjM w G vs pp) (hl:pp.length≤64):Rows2 w w.heap.size (.slice (some ⟨G,0,none⟩) pp.length pp.length) pp:=by
 refine ⟨_,pp.length,rfl,⟨le_refl _,by unfold maxLen;omega,fun e=>by cases e⟩,fun k hk=>?_⟩
 have hkv:k<vs.length:=by rw [h.fam.1];exact hk
 refine ⟨⟨G,0,none⟩,vs[k],rfl,h.blk.lt,?_,?_⟩
 ·rw [show (⟨G,0,none⟩:Addr).add k=⟨G,k,none⟩ by unfold Addr.add;split<;>simp_all,h.blk.cell]
  simp [hkv]
 ·have:=h.fam.2.1 k _ _ (List.getElem?_eq_getElem hkv) (List.getElem?_eq_getElem hk)
  rw [show pp.getD k []=pp[k] by simp [List.getD,hk]]
  exact Row.of_own this rfl
theorem AdjM.at_ {w:World} {G:Nat} {vs:List Value} {pp:List (List Int)} (h:AdjM w G vs pp) {i:Nat} (hi:i<pp.length):∃ (A:Option Addr) (c:Nat),vs[i]?=some (.slice A (pp.getD i []).length c)∧w.cell? ⟨G,i,none⟩=some (.slice A (pp.getD i []).length c)∧w.frozen? ⟨G,i,none⟩=false∧w.ownsRow (G+1) 3 1 (.slice A (pp.getD i []).length c) (pp.getD i []).length (ints (pp.getD i [])):=by
 have hkv:i<vs.length:=by rw [h.fam.1];exact hi
 have ho:=h.fam.2.1 i _ _ (List.getElem?_eq_getElem hkv) (List.getElem?_eq_getElem hi)
 obtain ⟨A,c,hv⟩:=J1_ ho
 have e:pp.getD i []=pp[i]:=by simp [List.getD,hi]
 rw [← e] at ho hv
 refine ⟨A,c,by rw [List.getElem?_eq_getElem hkv,hv],?_,h.blk.frozen i,by rw [← hv];exact ho⟩
 rw [h.blk.cell]
 simp [hkv,hv]
theorem AdjM.more {w w2:World} {G i cap g:Nat} {vs:List Value} {pp:List (List Int)} {A:Option Addr} {c:Nat} {q:List Int} {x:Int} (h:AdjM w G vs pp) (hi:vs[i]?=some (.slice A q.length c))
  (ho:w2.ownsRow (G+1) 3 1 (.slice (some ⟨g,0,none⟩) (q.length+1) cap) (q.length+1) (ints q ++ [.int .i64 x])) (hgr:(w.alloc (.cells #[.int .i64 x] 3)).grownBy w2 (Value.slice A q.length c).ownBlock) (hat:(Value.slice A q.length c).ownBlock=some g∨g=w.heap.size+1) :
  AdjM (w2.setCell ⟨G,i,none⟩ (.slice (some ⟨g,0,none⟩) (q.length+1) cap)) G (vs.set i (.slice (some ⟨g,0,none⟩) (q.length+1) cap)) (pp.set i (q ++ [x]))∧Below G w (w2.setCell ⟨G,i,none⟩ (.slice (some ⟨g,0,none⟩) (q.length+1) cap)):=by
 have hil:=(List.getElem?_eq_some_iff.1 hi).1
 have hip:i<pp.length:=by rw [← h.fam.1];exact hil
 have hG:=h.blk.lt
 have how:=h.fam.2.1 i _ _ hi (List.getElem?_eq_getElem hip)
 have hbig:∀ k,(Value.slice A q.length c).ownBlock=some k→G+1≤k:=fun k hk=>(how.lt k hk).1
 have hf1:=h.fam.new (World.grownBy_alloc w (.cells #[.int .i64 x] 3) none)
 have hf2:=Fam.grow hf1 hi hgr (q:=q ++ [x]) (by rw [List.length_append,show ints (q ++ [x])=ints q ++ [.int .i64 x] by simp [ints]];exact ho) (by
  rcases hat with e | e
  ·exact .inl e.symm
  ·exact .inr (by rw [e];simp [Value.ownBlock]))
 have hb2:Blk w2 G 26 vs.toArray:=(h.blk.alloc _).grown hgr (fun e=>by have:=hbig G e.symm;omega)
 have hset:=Y6_ w2 G i (.slice (some ⟨g,0,none⟩) (q.length+1) cap)
 refine ⟨⟨?_,hf2.apart hset (Nat.lt_succ_self G)⟩,?_⟩
 ·have:=hb2.set_ i (.slice (some ⟨g,0,none⟩) (q.length+1) cap)
  simpa using this
 ·exact (((Below.refl G w).alloc (Nat.le_of_lt hG) (.cells #[.int .i64 x] 3)).grown hgr (by simp;omega) (fun k hk=>by have:=hbig k hk;omega)).setCell (p:=⟨G,i,none⟩) (le_refl _) _
def V3_ (F T:Int→Int→Bool) (L:List (Int × Int)) (p:Int):List Int:=L.flatMap fun e=>(if e.1=p∧F e.2 e.1=true then [e.2] else []) ++ (if e.2=p∧T e.2 e.1=true then [e.1] else [])
def V2_ (F T:Int→Int→Bool) (L:List (Int × Int)) (n:Nat):List (List Int):=(List.range n).map fun (i:Nat)=>V3_ F T L (i:Int)
theorem N3_ (F T:Int→Int→Bool) (L:List (Int × Int)) (n:Nat):(V2_ F T L n).length=n:=by simp [V2_]
theorem Yh2 {F T:Int→Int→Bool} {L:List (Int × Int)} {n i:Nat} (h:i<n):(V2_ F T L n).getD i []=V3_ F T L (i:Int):=by simp [V2_,List.getD,h]
theorem N4_ (F T:Int→Int→Bool) (L:List (Int × Int)) (y x p:Int):V3_ F T (L ++ [(y,x)]) p=V3_ F T L p ++ ((if y=p∧F x y=true then [x] else []) ++ (if x=p∧T x y=true then [y] else [])):=by
 unfold V3_
 rw [List.flatMap_append]
 simp
theorem Zj6 {f g:Nat→List Int} {n i:Nat} (hi:i<n) (h:∀ k,k≠i→g k=f k):((List.range n).map f).set i (g i)=(List.range n).map g:=by
 refine List.ext_getElem? fun k=>?_
 by_cases hk:k=i
 ·subst hk
  rw [List.getElem?_set_self (by simpa using hi)]
  simp [hi]
 ·rw [List.getElem?_set_ne (Ne.symm hk)]
  by_cases hkn:k<n
  ·simp [hkn,h k hk]
  ·rw [List.getElem?_eq_none (by simpa using Nat.le_of_not_lt hkn),List.getElem?_eq_none (by simpa using Nat.le_of_not_lt hkn)]
def J5_ (F T:Int→Int→Bool) (L:List (Int × Int)) (y x:Int) (n:Nat):List (List Int):=(List.range n).map fun (i:Nat)=>V3_ F T L (i:Int) ++ if y=(i:Int)∧F x y=true then [x] else []
theorem Xu0 {F T:Int→Int→Bool} {L:List (Int × Int)} {y x:Int} {n:Nat} (h:F x y=false):J5_ F T L y x n=V2_ F T L n:=by
 unfold J5_ V2_
 refine List.map_congr_left fun i _=>?_
 rw [if_neg (by rw [h];simp),List.append_nil]
theorem Xf9 {F T:Int→Int→Bool} {L:List (Int × Int)} {Y n:Nat} {x:Int} (hY:Y<n) (h:F x (Y:Int)=true):(V2_ F T L n).set Y (V3_ F T L (Y:Int) ++ [x])=J5_ F T L (Y:Int) x n:=by
 have:=Zj6 (f:=fun i:Nat=>V3_ F T L (i:Int)) (g:=fun i:Nat=>V3_ F T L (i:Int) ++ if (Y:Int)=(i:Int)∧F x (Y:Int)=true then [x] else []) hY (fun k hk=>by rw [if_neg (fun e=>hk (by omega)),List.append_nil])
 rw [if_pos ⟨rfl,h⟩] at this
 exact this
theorem Xu1 {F T:Int→Int→Bool} {L:List (Int × Int)} {y x:Int} {n i:Nat} (h:i<n):(J5_ F T L y x n).getD i []=V3_ F T L (i:Int) ++ if y=(i:Int)∧F x y=true then [x] else []:=by simp [J5_,List.getD,h]
theorem Ya0 (F T:Int→Int→Bool) (L:List (Int × Int)) (y x:Int) (n:Nat):(J5_ F T L y x n).length=n:=by simp [J5_]
theorem Yw2 {F T:Int→Int→Bool} {L:List (Int × Int)} {y x:Int} {n:Nat} (h:T x y=false):J5_ F T L y x n=V2_ F T (L ++ [(y,x)]) n:=by
 unfold J5_ V2_
 refine List.map_congr_left fun i _=>?_
 rw [N4_,if_neg (show ¬ (x=(i:Int)∧T x y=true) by rw [h];simp),List.append_nil]
theorem Ya1 {F T:Int→Int→Bool} {L:List (Int × Int)} {X n:Nat} {y:Int} (hX:X<n) (hne:y≠(X:Int)) (h:T (X:Int) y=true):(J5_ F T L y (X:Int) n).set X (V3_ F T L (X:Int) ++ [y])=V2_ F T (L ++ [(y,(X:Int))]) n:=by
 have:=Zj6 (f:=fun i:Nat=>V3_ F T L (i:Int) ++ if y=(i:Int)∧F (X:Int) y=true then [(X:Int)] else []) (g:=fun i:Nat=>V3_ F T (L ++ [(y,(X:Int))]) (i:Int)) hX (fun k hk=>by
  show V3_ F T (L ++ [(y,(X:Int))]) (k:Int)=_
  rw [N4_,if_neg (show ¬ ((X:Int)=(k:Int)∧T (X:Int) y=true) from fun e=>hk (by omega)),List.append_nil])
 rw [N4_,if_neg (show ¬ (y=(X:Int)∧F (X:Int) y=true) from fun e=>hne e.1),if_pos ⟨rfl,h⟩,List.nil_append] at this
 exact this
def J6_ (s o:List Int) (i j:Nat):List (Int × Int):=((s.take i).flatMap fun y=>o.map fun x=>(y,x)) ++ (o.take j).map fun x=>(s.getD i 0,x)
theorem Yh3 (s o:List Int):J6_ s o 0 0=[]:=by simp [J6_]
theorem Yh4 {s o:List Int} {i j:Nat} (hj:j<o.length):J6_ s o i (j+1)=J6_ s o i j ++ [(s.getD i 0,o.getD j 0)]:=by
 unfold J6_
 rw [List.take_succ_eq_append_getElem hj,List.map_append,List.append_assoc,show o[j]=o.getD j 0 by simp [List.getD,hj]]
 rfl
theorem Yh5 {s o:List Int} {i:Nat} (hi:i<s.length):J6_ s o i o.length=J6_ s o (i+1) 0:=by
 unfold J6_
 rw [List.take_succ_eq_append_getElem hi,List.flatMap_append,List.take_length,show s[i]=s.getD i 0 by simp [List.getD,hi]]
 simp
theorem Xk5 {m:Mat} {s:List Int} (hc:chk m=0) (hS:InN (nN m) s):((Z7_ (allL m.n) s).filter fun x=>indT m (Y2_ s [x]))=addG m s:=by
 have hn:=chk_n hc
 refine R0_ ((F2_ hn.1 hn.2 hS.1).1.1.filter _) ((S4_ (Z8_ hc).2).1.1) fun x=>?_
 unfold addG
 rw [List.mem_filter,List.mem_filter,X8_ (F6_ m.n) hS.1,G8_ hn.1 (by omega),mem_upTo,Bool.and_eq_true,Bool.not_eq_true',← Bool.not_eq_true,F7_ hS.1]
 have:(nN m:Int)=m.n:=(Z8_ hc).1
 constructor
 ·rintro ⟨⟨h1,h2⟩,h3⟩;exact ⟨⟨by omega,by omega⟩,h2,h3⟩
 ·rintro ⟨h1,h2,h3⟩;exact ⟨⟨⟨by omega,by omega⟩,h2⟩,h3⟩
theorem B4_ {α β:Type} {l:List α} {f g:α→List β} (h:∀ x∈l,f x=g x):l.flatMap f=l.flatMap g:=by
 rw [List.flatMap_def,List.flatMap_def,List.map_congr_left h]
theorem N5_ {p:Int} {g:List Int}:∀ {s:List Int},s.Nodup→p∈s→(s.flatMap fun y=>if y=p then g else [])=g
 | [],_,h=>by simp at h
 | a :: l,hn,h=>by
  obtain ⟨h1,h2⟩:=List.nodup_cons.1 hn
  rw [List.flatMap_cons]
  by_cases e:a=p
  ·subst e
   rw [if_pos rfl]
   have:(l.flatMap fun y=>if y=a then g else [])=[]:=by
    rw [List.flatMap_eq_nil_iff]
    intro y hy
    rw [if_neg (fun e:y=a=>h1 (e▸hy))]
   rw [this,List.append_nil]
  ·rw [if_neg e,List.nil_append]
   exact N5_ h2 ((List.mem_cons.1 h).resolve_left (fun e'=>e e'.symm))
theorem G0_ (P:Int→Bool):∀ s:List Int,(s.flatMap fun y=>if P y=true then [y] else [])=s.filter P
 | []=>rfl
 | a :: l=>by
  rw [List.flatMap_cons,G0_ P l,List.filter_cons]
  split<;>rfl
theorem Zn8 (F T:Int→Int→Bool) (s o:List Int) (p:Int):V3_ F T (J6_ s o s.length 0) p=s.flatMap fun y=>o.flatMap fun x=>(if y=p∧F x y=true then [x] else []) ++ (if x=p∧T x y=true then [y] else []):=by
 unfold V3_ J6_
 rw [List.take_length,List.take_zero,List.map_nil,List.append_nil,List.flatMap_assoc]
 refine B4_ fun y _=>?_
 rw [List.flatMap_map]
theorem Xu2 {F T:Int→Int→Bool} {s o:List Int} {p:Int} (hs:s.Nodup) (hp:p∈s) (hpo:p∉o):V3_ F T (J6_ s o s.length 0) p=o.filter fun x=>F x p:=by
 rw [Zn8,← G0_,← N5_ (g:=o.flatMap fun x=>if F x p=true then [x] else []) hs hp]
 refine B4_ fun y _=>?_
 by_cases e:y=p
 ·subst e
  rw [if_pos rfl]
  refine B4_ fun x hx=>?_
  rw [if_neg (show ¬ (x=y∧T x y=true) from fun h=>hpo (h.1▸hx)),List.append_nil]
  simp
 ·rw [if_neg e,List.flatMap_eq_nil_iff]
  intro x hx
  rw [if_neg (show ¬ (y=p∧F x y=true) from fun h=>e h.1),if_neg (show ¬ (x=p∧T x y=true) from fun h=>hpo (h.1▸hx))]
  rfl
theorem Xg0 {F T:Int→Int→Bool} {s o:List Int} {p:Int} (ho:o.Nodup) (hp:p∈o) (hps:p∉s):V3_ F T (J6_ s o s.length 0) p=s.filter fun y=>T p y:=by
 rw [Zn8,← G0_]
 refine B4_ fun y hy=>?_
 rw [← N5_ (g:=if T p y=true then [y] else []) ho hp]
 refine B4_ fun x _=>?_
 rw [if_neg (show ¬ (y=p∧F x y=true) from fun h=>hps (h.1▸hy)),List.nil_append]
 by_cases e:x=p
 ·subst e;simp
 ·simp [e]
theorem Zn9 {s:List Int} (h:IsSet s):s.Nodup:=h.1.imp (fun h=>by omega)
theorem Zo0 {m:Mat} {s:List Int} (hi:indT m s=true) {x y:Int} (hx:InN (nN m) [x]):(hasB (addG m s) x || indT m (Y2_ (Z7_ s [y]) [x]))=indT m (Y2_ (Z7_ s [y]) [x]):=by
 obtain ⟨hc,hS⟩:=mayI_iff.1 (D4_ hi)
 cases h:hasB (addG m s) x with
 | false=>rfl
 | true =>
  rw [Bool.true_or]
  symm
  have hA:InN (nN m) (addG m s):=S4_ (Z8_ hc).2
  have h1:=(F7_ hA.1 x).1 h
  unfold addG at h1
  rw [List.mem_filter,Bool.and_eq_true] at h1
  have hU:=B1_ hS hx
  have hy:∀ z∈Z7_ s [y],z∈s:=fun z hz=>by
   unfold Z7_ partL at hz
   split at hz
   ·exact (List.mem_filter.1 hz).1
   ·simp at hz
  have hM:InN (nN m) (Z7_ s [y]):=⟨E3_ _ _,fun z hz=>hS.2 z (hy z hz)⟩
  refine Xf2 (mayI_iff.2 ⟨hc,hU⟩) (mayI_iff.2 ⟨hc,B1_ hM hx⟩) (fun z hz=>?_) h1.2.2
  rw [Q5_ (E3_ _ _) hx.1] at hz
  rw [Q5_ hS.1 hx.1]
  exact hz.imp (hy z) id
theorem Xu3 {a b:Mat} {s:List Int} (hC:Common a b s):V2_ (fun x y=>hasB (addG a s) x || indT a (Y2_ (Z7_ s [y]) [x])) (fun x y=>hasB (addG b s) x || indT b (Y2_ (Z7_ s [y]) [x])) (J6_ s (Z7_ (allL a.n) s) s.length 0) (nN a)=adjG a b s:=by
 have hS:=hC.set
 have hn64:=hC.n64
 have hca:=(mayI_iff.1 (D4_ hC.ia)).1
 have hn:=chk_n hca
 have hnn:(nN a:Int)=a.n:=(Z8_ hca).1
 have hoN:InN (nN a) (Z7_ (allL a.n) s):=F2_ hn.1 hn.2 hS.1
 have ho:∀ x,x∈Z7_ (allL a.n) s↔(0≤x∧x<(nN a:Int))∧x∉s:=fun x=>by
  rw [X8_ (F6_ a.n) hS.1,G8_ hn.1 (by omega),hnn]
 unfold V2_ adjG upTo
 rw [List.map_map]
 refine List.map_congr_left fun i hi=>?_
 have hi:=List.mem_range.1 hi
 show V3_ _ _ _ (i:Int)=arcsG a b s (i:Int)
 have hbn:nN b=nN a:=hC.nn
 by_cases hp:(i:Int)∈s
 ·rw [Xu2 (Zn9 hS.1) hp (fun h=>((ho _).1 h).2 hp)]
  refine R0_ (hoN.1.filter _).1 ((W8_ hn64).filter _).1 fun x=>?_
  rw [List.mem_filter,ho]
  unfold arcsG
  rw [List.mem_filter,mem_upTo]
  have e2:P5_ b s (i:Int) x=false:=by
   unfold P5_
   rw [(F7_ hS.1 _).2 hp]
   simp
  rw [e2,Bool.or_false]
  unfold P5_
  rw [(F7_ hS.1 _).2 hp,Bool.true_and,Bool.and_eq_true,Bool.not_eq_true',← Bool.not_eq_true,F7_ hS.1]
  constructor
  ·rintro ⟨⟨h1,h2⟩,h3⟩
   have hx:InN (nN a) [x]:=by
    obtain ⟨X,rfl⟩:∃ X:Nat,x=(X:Int):=⟨x.toNat,by omega⟩
    exact Yq7 hn64 (by omega)
   rw [Zo0 hC.ia hx] at h3
   exact ⟨h1,h2,h3⟩
  ·rintro ⟨h1,h2,h3⟩
   refine ⟨⟨h1,h2⟩,?_⟩
   rw [h3,Bool.or_true]
 ·rw [Xg0 (Zn9 hoN.1) ((ho _).2 ⟨⟨by omega,by omega⟩,hp⟩) hp]
  refine R0_ (hS.1.filter _).1 ((W8_ hn64).filter _).1 fun y=>?_
  rw [List.mem_filter]
  unfold arcsG
  rw [List.mem_filter,mem_upTo]
  have hb0:hasB s (i:Int)=false:=by rw [← Bool.not_eq_true,F7_ hS.1];exact hp
  have e2:P5_ a s y (i:Int)=false:=by
   unfold P5_
   rw [hb0,Bool.false_and]
  rw [e2,Bool.false_or]
  unfold P5_
  rw [hb0,Bool.not_false,Bool.true_and,Bool.and_eq_true,F7_ hS.1,Zo0 hC.ib (by rw [hbn];exact Yq7 hn64 hi)]
  constructor
  ·rintro ⟨h1,h3⟩
   have:=hS.2 y h1
   exact ⟨this,h1,h3⟩
  ·rintro ⟨h1,h2,h3⟩
   exact ⟨h2,h3⟩
theorem Zw6 (w:World) (t:TypeId) (u:Value):∀ (j:Nat) (v:Value),[u][j]?=some v→(w.alloc (.cells #[u] t)).cell? ((⟨w.heap.size,0,none⟩:Addr).add j)=some v:=fun j v h=>by
 cases j with
 | zero =>
  have e:u=v:=by simpa using h
  rw [add_g,(Blk.new w t #[u]).cell,← e]
  rfl
 | succ j=>simp at h
theorem AdjM.fresh {w:World} {G n:Nat} {F T:Int→Int→Bool} (hb:Blk w G 26 (fillV (fun _=>undef) (.slice none 0 0) n 0)):∃ vs,AdjM w G vs (V2_ F T [] n):=by
 refine ⟨(List.range n).map fun i=>if i<0 then undef else .slice none 0 0,hb,by simp [V2_],fun i v p hv hp=>?_,fun i j v u hv hu _=>?_⟩
 ·have hi:=(List.getElem?_eq_some_iff.1 hv).1
  rw [List.length_map,List.length_range] at hi
  have ev:v=.slice none 0 0:=by simpa [hi] using hv.symm
  have ep:p=[]:=by simpa [V2_,hi,V3_] using hp.symm
  rw [ev,ep]
  exact World.ownsRow_nil _ _ _ _
 ·have hi:=(List.getElem?_eq_some_iff.1 hv).1
  rw [List.length_map,List.length_range] at hi
  have ev:v=.slice none 0 0:=by simpa [hi] using hv.symm
  rw [ev]
  exact .inl rfl
theorem AdjM.mid {w w2:World} {G i:Nat} {vs:List Value} {pp:List (List Int)} {v:Value} (h:AdjM w G vs pp) (hi:vs[i]?=some v) (o:Obj) (hgr:(w.alloc o).grownBy w2 v.ownBlock):Blk w2 G 26 vs.toArray∧Below G w w2:=by
 have hil:=(List.getElem?_eq_some_iff.1 hi).1
 have hip:i<pp.length:=by rw [← h.fam.1];exact hil
 have hG:=h.blk.lt
 have how:=h.fam.2.1 i _ _ hi (List.getElem?_eq_getElem hip)
 have hbig:∀ k,v.ownBlock=some k→G+1≤k:=fun k hk=>(how.lt k hk).1
 exact ⟨(h.blk.alloc _).grown hgr (fun e=>by have:=hbig G e.symm;omega),((Below.refl G w).alloc (Nat.le_of_lt hG) o).grown hgr (by simp;omega) (fun k hk=>by have:=hbig k hk;omega)⟩
theorem Zz1 (F T:Int→Int→Bool) (p:Int):∀ L:List (Int × Int),(V3_ F T L p).length≤2 * L.length
 | []=>by simp [V3_]
 | e :: L=>by
  have ih:=Zz1 F T p L
  unfold V3_ at ih ⊢
  rw [List.flatMap_cons,List.length_append,List.length_append,List.length_cons]
  have h1:(if e.1=p∧F e.2 e.1=true then [e.2] else []).length≤1:=by split<;>simp
  have h2:(if e.2=p∧T e.2 e.1=true then [e.1] else []).length≤1:=by split<;>simp
  omega
theorem Yw3 {s o:List Int} {i j:Nat} (hi:i≤64) (hj:j≤64) (ho:o.length≤64):(J6_ s o i j).length≤4160:=by
 have h:∀ t:List Int,(t.flatMap fun y=>o.map fun x=>(y,x)).length≤t.length * 64:=by
  intro t
  induction t with
  | nil=>simp
  | cons a t ih =>
   rw [List.flatMap_cons,List.length_append,List.length_map,List.length_cons]
   omega
 unfold J6_
 rw [List.length_append,List.length_map,List.length_take]
 have h1:=h (s.take i)
 rw [List.length_take] at h1
 have h2:min i s.length≤64:=by omega
 omega
theorem Vq3 {a:Mat} {s:List Int} (hc:chk a=0) (hS:InN (nN a) s):s.length+(Z7_ (allL a.n) s).length=nN a:=by
 have hn:=chk_n hc
 have h1:=V1_ (F2_ hn.1 hn.2 hS.1)
 have h2:=V1_ hS
 have h3:cnt (memP (Z7_ (allL a.n) s)) a.n.toNat=cnt (notP (memP s)) a.n.toNat:=K0_ fun i hi=>Zx5 hn.1 hn.2 hS.1 hi
 have h4:=Yv6 (memP s) (nN a)
 rw [h1,h3,h2]
 have e:nN a=a.n.toNat:=rfl
 rw [e] at h4 ⊢
 omega
theorem Zc6 {F T:Int→Int→Bool} {L:List (Int × Int)} {y:Int} {n X:Nat} (h:X<n) (hne:y≠(X:Int)):(J5_ F T L y (X:Int) n).getD X []=V3_ F T L (X:Int):=by
 rw [Xu1 h,if_neg (fun e=>hne e.1),List.append_nil]
theorem S6_ (E:Nat→Addr) (a b:Mat) (va vb sv:Value) (s:List Int) (w:World) (ha:MatV w w.heap.size va a) (hb:MatV w w.heap.size vb b) (hsa:Sml a) (hsb:Sml b) (hr:Row w w.heap.size sv s) (hE:Env E w) (hC:Common a b s) :
  Calls Tryz.prog 11 #[va,vb,sv] w (G6_ w (adjG a b s) (addG a s) (addG b s) 0):=by
 have hS:=hC.set
 have hn64:=hC.n64
 have hsl:=Y3_ hS
 have hca:=(mayI_iff.1 (D4_ hC.ia)).1
 have hcb:=(mayI_iff.1 (D4_ hC.ib)).1
 have hna:=chk_n hca
 have hoN:InN (nN a) (Z7_ (allL a.n) s):=F2_ hna.1 hna.2 hS.1
 have hol:=Y3_ hoN
 have HM:Hid (∀ (va vb sv:Value) (W:World),MatV W W.heap.size va a→MatV W W.heap.size vb b→Row W W.heap.size sv s→Env E W→Calls Tryz.prog 13 #[va,vb,sv] W (Says W true)):=hid fun va vb sv W h1 h2 h3 h4=>by rw [← mayS_iff.2 hC];exact P9_ E a b va vb sv s W h1 h2 hsa hsb h3 (by omega) h4
 obtain ⟨la,ia,hva,hla,hia⟩:=ha.open
 obtain ⟨lb,ib,hvb,hlb,hib⟩:=hb.open
 obtain ⟨Al,cl,rfl,_⟩:=hla
 obtain ⟨Ai,ci,rfl,_⟩:=hia
 obtain ⟨Bl,dl,rfl,_⟩:=hlb
 obtain ⟨Bi,di,rfl,_⟩:=hib
 obtain ⟨As,cs,hsv,_⟩:=id hr
 subst hva hvb hsv
 obtain ⟨o,ho⟩:∃ o,Z7_ (allL a.n) s=o:=⟨_,rfl⟩
 have ho2:Z7_ (allL b.n) s=o:=by rw [← hC.n];exact ho
 rw [ho] at hol hoN
 have HTA:Hid (∀ W,MatV W W.heap.size (.agg #[.int .i64 a.t,.int .i64 a.n,.int .i64 a.a,.int .i64 a.b,.slice Al a.l.length cl,.slice Ai a.i.length ci]) a→Row W W.heap.size (.slice As s.length cs) s→Env E W→Calls Tryz.prog 32 #[.agg #[.int .i64 a.t,.int .i64 a.n,.int .i64 a.a,.int .i64 a.b,.slice Al a.l.length cl,.slice Ai a.i.length ci],.slice As s.length cs] W (P7_ W (.int .i64 a.t) (.int .i64 a.n) (.int .i64 a.a) (.int .i64 a.b) (.slice Al a.l.length cl) (.slice Ai a.i.length ci) (.slice As s.length cs) (addG a s))):=hid fun W h1 h2 h3=>by
  have h:=Zc2 E a Al Ai _ _ _ _ _ s W h1 hsa h2 (by omega) (by rw [ho];omega) h3
  rw [Xk5 hca hS] at h
  exact h
 have HTB:Hid (∀ W,MatV W W.heap.size (.agg #[.int .i64 b.t,.int .i64 b.n,.int .i64 b.a,.int .i64 b.b,.slice Bl b.l.length dl,.slice Bi b.i.length di]) b→Row W W.heap.size (.slice As s.length cs) s→Env E W→Calls Tryz.prog 32 #[.agg #[.int .i64 b.t,.int .i64 b.n,.int .i64 b.a,.int .i64 b.b,.slice Bl b.l.length dl,.slice Bi b.i.length di],.slice As s.length cs] W (P7_ W (.int .i64 b.t) (.int .i64 b.n) (.int .i64 b.a) (.int .i64 b.b) (.slice Bl b.l.length dl) (.slice Bi b.i.length di) (.slice As s.length cs) (addG b s))):=hid fun W h1 h2 h3=>by
  have h:=Zc2 E b Bl Bi _ _ _ _ _ s W h1 hsb h2 (by omega) (by rw [ho2];omega) h3
  rw [Xk5 hcb (by rw [hC.nn];exact hS)] at h
  exact h
 obtain ⟨FA,hFA⟩:∃ FA,addG a s=FA:=⟨_,rfl⟩
 obtain ⟨FB,hFB⟩:∃ FB,addG b s=FB:=⟨_,rfl⟩
 rw [hFA] at HTA
 rw [hFB] at HTB
 obtain ⟨W2,hW2⟩:∃ W2,W2=(w.alloc (.cells #[.int .i64 a.t,.int .i64 a.n,.int .i64 a.a,.int .i64 a.b,.slice Al a.l.length cl,.slice Ai a.i.length ci] 25)).alloc (.cells #[.int .i64 b.t,.int .i64 b.n,.int .i64 b.a,.int .i64 b.b,.slice Bl b.l.length dl,.slice Bi b.i.length di] 25):=⟨_,rfl⟩
 have HW2:=hid hW2
 have hb2:Below w.heap.size w W2:=by rw [hW2];exact ((Below.refl _ w).alloc (le_refl _) _).alloc (by simp) _
 have hka:Blk W2 w.heap.size 25 #[.int .i64 a.t,.int .i64 a.n,.int .i64 a.a,.int .i64 a.b,.slice Al a.l.length cl,.slice Ai a.i.length ci]:=by rw [hW2];exact (Blk.new w _ _).alloc _
 have hkb:Blk W2 (w.heap.size+1) 25 #[.int .i64 b.t,.int .i64 b.n,.int .i64 b.a,.int .i64 b.b,.slice Bl b.l.length dl,.slice Bi b.i.length di]:=by
  rw [hW2]
  have:=Blk.new (w.alloc (.cells #[.int .i64 a.t,.int .i64 a.n,.int .i64 a.a,.int .i64 a.b,.slice Al a.l.length cl,.slice Ai a.i.length ci] 25)) 25 #[.int .i64 b.t,.int .i64 b.n,.int .i64 b.a,.int .i64 b.b,.slice Bl b.l.length dl,.slice Bi b.i.length di]
  simpa using this
 have Hb2:=hid hb2
 have Hka2:=hid hka
 have Hkb2:=hid hkb
 have HA:=hid (ha.up hb2)
 have HBm:=hid (hb.up hb2)
 have HR:=hid (hr.up hb2)
 have HE:=hid (hE.up hb2)
 have HC:=hid hC
 have Ho:=hid ho
 have HoN:=hid hoN
 have HSS:=hid hS
 have Hsa:=hid hsa
 have Hsb:=hid hsb
 clear hW2 hb2 hka hkb ha hb hsa hsb hr hE hC hS hca hcb hna hoN ho ho2
 go_enter Tryz.func11,Tryz.ntmps11
 go_wp2_with fail
 rw [← HW2.out]
 refine (HM.out _ _ _ _ HA.out HBm.out HR.out HE.out).mono ?_
 rintro e w3 ⟨rfl,hb3⟩
 have Hb3:=hid (Z0_ Hb2.out (le_refl _) hb3)
 have Hka:=hid (Hka2.out.below hb3 Hka2.out.lt)
 have Hkb:=hid (Hkb2.out.below hb3 Hkb2.out.lt)
 replace HA:=hid (HA.out.up hb3)
 replace HBm:=hid (HBm.out.up hb3)
 replace HR:=hid (HR.out.up hb3)
 replace HE:=hid (HE.out.up hb3)
 clear hb3 HM Hka2 Hkb2
 have K1:Hid (∀ W,Below w3.heap.size w3 W→W.cell? ⟨w.heap.size,0,none⟩=some (.int .i64 a.t)∧W.cell? ⟨w.heap.size,1,none⟩=some (.int .i64 a.n)∧W.cell? ⟨w.heap.size,2,none⟩=some (.int .i64 a.a)∧W.cell? ⟨w.heap.size,3,none⟩=some (.int .i64 a.b)∧W.cell? ⟨w.heap.size,4,none⟩=some (.slice Al a.l.length cl)∧W.cell? ⟨w.heap.size,5,none⟩=some (.slice Ai a.i.length ci)∧W.cell? ⟨w.heap.size+1,0,none⟩=some (.int .i64 b.t)∧W.cell? ⟨w.heap.size+1,1,none⟩=some (.int .i64 b.n)∧W.cell? ⟨w.heap.size+1,2,none⟩=some (.int .i64 b.a)∧W.cell? ⟨w.heap.size+1,3,none⟩=some (.int .i64 b.b)∧W.cell? ⟨w.heap.size+1,4,none⟩=some (.slice Bl b.l.length dl)∧W.cell? ⟨w.heap.size+1,5,none⟩=some (.slice Bi b.i.length di)):=hid fun W hW=>⟨(Hka.out.below hW Hka.out.lt).cell 0,(Hka.out.below hW Hka.out.lt).cell 1,(Hka.out.below hW Hka.out.lt).cell 2,(Hka.out.below hW Hka.out.lt).cell 3,(Hka.out.below hW Hka.out.lt).cell 4,(Hka.out.below hW Hka.out.lt).cell 5,(Hkb.out.below hW Hkb.out.lt).cell 0,(Hkb.out.below hW Hkb.out.lt).cell 1,(Hkb.out.below hW Hkb.out.lt).cell 2,(Hkb.out.below hW Hkb.out.lt).cell 3,(Hkb.out.below hW Hkb.out.lt).cell 4,(Hkb.out.below hW Hkb.out.lt).cell 5⟩
 have HBB:Hid (Below w3.heap.size w3 w3.drew):=hid (Below.refl _ _).drew
 have HAB:=hid HBm.out
 go_upto_region 3 with fail
 go_cut [10,11] (fun s10 s11 wx=>∃ (ga gb:Nat) (Am Bm:Option Addr) (nm cm np cp:Nat),s10=.pointer (some ⟨ga,0,none⟩)∧s11=.pointer (some ⟨gb,0,none⟩)∧Hid (ga≠gb∧w3.heap.size≤ga∧w3.heap.size≤gb∧Blk wx ga 52 #[.int .i64 a.t,.int .i64 a.n,.int .i64 a.a,.int .i64 a.b,.slice Al a.l.length cl,.slice Ai a.i.length ci,.slice As s.length cs,.slice Am nm cm]∧Blk wx gb 52 #[.int .i64 b.t,.int .i64 b.n,.int .i64 b.a,.int .i64 b.b,.slice Bl b.l.length dl,.slice Bi b.i.length di,.slice As s.length cs,.slice Bm np cp]∧Row wx wx.heap.size (.slice Am nm cm) FA∧Row wx wx.heap.size (.slice Bm np cp) FB∧Below w3.heap.size w3 wx))
 case first =>
  refine S5_ 8 (ksG (.int .i64 a.t) (.int .i64 a.n) (.int .i64 a.a) (.int .i64 a.b) (.slice Al a.l.length cl) (.slice Ai a.i.length ci) (.int .i64 b.t) (.int .i64 b.n) (.int .i64 b.a) (.int .i64 b.b) (.slice Bl b.l.length dl) (.slice Bi b.i.length di) (.slice As s.length cs) FA FB) frG (by kernel_rfl) (by kernel_rfl) (Vq2 (B1:=w.heap.size) (B2:=w.heap.size+1) ⟨rfl,rfl,rfl,?hK,?hA,?hB⟩) ?_
  case hK=>exact fun W hW=>K1.out W (Z0_ HBB.out (le_refl _) hW)
  case hA=>exact fun W hW=>HTA.out W (HA.out.up (Z0_ HBB.out (le_refl _) hW)) (HR.out.up (Z0_ HBB.out (le_refl _) hW)) (HE.out.up (Z0_ HBB.out (le_refl _) hW))
  case hB=>exact fun W hW=>HTB.out W (HBm.out.up (Z0_ HBB.out (le_refl _) hW)) (HR.out.up (Z0_ HBB.out (le_refl _) hW)) (HE.out.up (Z0_ HBB.out (le_refl _) hW))
  intro a' W hW hsz hdf hout hall hap hfre
  obtain ⟨ga,h10,kA⟩:∃ g,a'.tmps.getD 10 undef=.pointer (some ⟨g,0,none⟩)∧Blk W g 52 #[.int .i64 0,.int .i64 0,.int .i64 0,.int .i64 0,.slice none 0 0,.slice none 0 0,.slice none 0 0,.slice none 0 0]:=hall 6 10 (by decide) (by kernel_rfl)
  obtain ⟨gb,h11,kB⟩:∃ g,a'.tmps.getD 11 undef=.pointer (some ⟨g,0,none⟩)∧Blk W g 52 #[.int .i64 0,.int .i64 0,.int .i64 0,.int .i64 0,.slice none 0 0,.slice none 0 0,.slice none 0 0,.slice none 0 0]:=hall 7 11 (by decide) (by kernel_rfl)
  obtain ⟨Am,nm,cm,h25,oA⟩:∃ (A:Option Addr) (n c:Nat),a'.tmps.getD 25 undef=.agg #[.int .i64 a.t,.int .i64 a.n,.int .i64 a.a,.int .i64 a.b,.slice Al a.l.length cl,.slice Ai a.i.length ci,.slice As s.length cs,.slice A n c]∧W.ownsRow 0 3 1 (.slice A n c) FA.length (ints FA):=hall 2 25 (by decide) (by kernel_rfl)
  obtain ⟨Bm,np,cp,h28,oB⟩:∃ (A:Option Addr) (n c:Nat),a'.tmps.getD 28 undef=.agg #[.int .i64 b.t,.int .i64 b.n,.int .i64 b.a,.int .i64 b.b,.slice Bl b.l.length dl,.slice Bi b.i.length di,.slice As s.length cs,.slice A n c]∧W.ownsRow 0 3 1 (.slice A n c) FB.length (ints FB):=hall 5 28 (by decide) (by kernel_rfl)
  have h23:a'.tmps.getD 23 undef=.agg #[.int .i64 a.t,.int .i64 a.n,.int .i64 a.a,.int .i64 a.b,.slice Al a.l.length cl,.slice Ai a.i.length ci]:=hall 0 23 (by decide) (by kernel_rfl)
  have h24:a'.tmps.getD 24 undef=.slice As s.length cs:=hall 1 24 (by decide) (by kernel_rfl)
  have h26:a'.tmps.getD 26 undef=.agg #[.int .i64 b.t,.int .i64 b.n,.int .i64 b.a,.int .i64 b.b,.slice Bl b.l.length dl,.slice Bi b.i.length di]:=hall 3 26 (by decide) (by kernel_rfl)
  have h27:a'.tmps.getD 27 undef=.slice As s.length cs:=hall 4 27 (by decide) (by kernel_rfl)
  have hne:ga≠gb:=hap 6 7 10 11 ga gb (by decide) (by decide) (by decide) rfl rfl (by kernel_rfl) (by kernel_rfl) h10 h11
  have hfr:=Xf8 (N:=84) [(10,.pointer (some ⟨ga,0,none⟩)),(11,.pointer (some ⟨gb,0,none⟩)),(23,.agg #[.int .i64 a.t,.int .i64 a.n,.int .i64 a.a,.int .i64 a.b,.slice Al a.l.length cl,.slice Ai a.i.length ci]),(24,.slice As s.length cs),(25,.agg #[.int .i64 a.t,.int .i64 a.n,.int .i64 a.a,.int .i64 a.b,.slice Al a.l.length cl,.slice Ai a.i.length ci,.slice As s.length cs,.slice Am nm cm]),(26,.agg #[.int .i64 b.t,.int .i64 b.n,.int .i64 b.a,.int .i64 b.b,.slice Bl b.l.length dl,.slice Bi b.i.length di]),(27,.slice As s.length cs),(28,.agg #[.int .i64 b.t,.int .i64 b.n,.int .i64 b.a,.int .i64 b.b,.slice Bl b.l.length dl,.slice Bi b.i.length di,.slice As s.length cs,.slice Bm np cp])] rfl hsz hdf hout (by kernel_rfl) (by
   intro p hp
   simp only [List.mem_cons,List.not_mem_nil,or_false] at hp
   rcases hp with rfl | rfl | rfl | rfl | rfl | rfl | rfl | rfl<;>assumption)
  have hga:w3.heap.size≤ga:=by
   obtain ⟨g,e,hg⟩:=hfre 6 10 (by decide) rfl (by kernel_rfl)
   rw [h10] at e
   injection e with e
   injection e with e
   injection e with e
   rw [e];exact hg
  have hgb:w3.heap.size≤gb:=by
   obtain ⟨g,e,hg⟩:=hfre 7 11 (by decide) rfl (by kernel_rfl)
   rw [h11] at e
   injection e with e
   injection e with e
   injection e with e
   rw [e];exact hg
  have hBW:Below w3.heap.size w3 W:=Z0_ HBB.out (le_refl _) hW
  have hnt : 3 ≠ 52 := by decide
  have kA9:=W9_ (Yq9 kA (.int .i64 a.t) (.int .i64 a.n) (.int .i64 a.a) (.int .i64 a.b) (.slice Al a.l.length cl) (.slice Ai a.i.length ci) (.slice As s.length cs) (.slice Am nm cm)) hne (.int .i64 b.t) (.int .i64 b.n) (.int .i64 b.a) (.int .i64 b.b) (.slice Bl b.l.length dl) (.slice Bi b.i.length di) (.slice As s.length cs) (.slice Bm np cp)
  have kB9:=Yq9 (W9_ kB (Ne.symm hne) (.int .i64 a.t) (.int .i64 a.n) (.int .i64 a.a) (.int .i64 a.b) (.slice Al a.l.length cl) (.slice Ai a.i.length ci) (.slice As s.length cs) (.slice Am nm cm)) (.int .i64 b.t) (.int .i64 b.n) (.int .i64 b.a) (.int .i64 b.b) (.slice Bl b.l.length dl) (.slice Bi b.i.length di) (.slice As s.length cs) (.slice Bm np cp)
  have oA9:=Zz0 (Zz0 oA kA hnt (.int .i64 a.t) (.int .i64 a.n) (.int .i64 a.a) (.int .i64 a.b) (.slice Al a.l.length cl) (.slice Ai a.i.length ci) (.slice As s.length cs) (.slice Am nm cm)) (W9_ kB (Ne.symm hne) (.int .i64 a.t) (.int .i64 a.n) (.int .i64 a.a) (.int .i64 a.b) (.slice Al a.l.length cl) (.slice Ai a.i.length ci) (.slice As s.length cs) (.slice Am nm cm)) hnt (.int .i64 b.t) (.int .i64 b.n) (.int .i64 b.a) (.int .i64 b.b) (.slice Bl b.l.length dl) (.slice Bi b.i.length di) (.slice As s.length cs) (.slice Bm np cp)
  have oB9:=Zz0 (Zz0 oB kA hnt (.int .i64 a.t) (.int .i64 a.n) (.int .i64 a.a) (.int .i64 a.b) (.slice Al a.l.length cl) (.slice Ai a.i.length ci) (.slice As s.length cs) (.slice Am nm cm)) (W9_ kB (Ne.symm hne) (.int .i64 a.t) (.int .i64 a.n) (.int .i64 a.a) (.int .i64 a.b) (.slice Al a.l.length cl) (.slice Ai a.i.length ci) (.slice As s.length cs) (.slice Am nm cm)) hnt (.int .i64 b.t) (.int .i64 b.n) (.int .i64 b.a) (.int .i64 b.b) (.slice Bl b.l.length dl) (.slice Bi b.i.length di) (.slice As s.length cs) (.slice Bm np cp)
  have hB9:=Zc5 (Zc5 hBW hga (.int .i64 a.t) (.int .i64 a.n) (.int .i64 a.a) (.int .i64 a.b) (.slice Al a.l.length cl) (.slice Ai a.i.length ci) (.slice As s.length cs) (.slice Am nm cm)) hgb (.int .i64 b.t) (.int .i64 b.n) (.int .i64 b.a) (.int .i64 b.b) (.slice Bl b.l.length dl) (.slice Bi b.i.length di) (.slice As s.length cs) (.slice Bm np cp)
  have HF:=hid (And.intro hne (And.intro hga (And.intro hgb (And.intro kA9 (And.intro kB9 (And.intro (Row.of_own oA9 rfl) (And.intro (Row.of_own oB9 rfl) hB9)))))))
  have nA0:=kA.cell 0
  have fA0:=kA.frozen 0
  have nB0:=kB.cell 0
  have fB0:=kB.frozen 0
  have nA1:=kA.cell 1
  have fA1:=kA.frozen 1
  have nB1:=kB.cell 1
  have fB1:=kB.frozen 1
  have nA2:=kA.cell 2
  have fA2:=kA.frozen 2
  have nB2:=kB.cell 2
  have fB2:=kB.frozen 2
  have nA3:=kA.cell 3
  have fA3:=kA.frozen 3
  have nB3:=kB.cell 3
  have fB3:=kB.frozen 3
  have nA4:=kA.cell 4
  have fA4:=kA.frozen 4
  have nB4:=kB.cell 4
  have fB4:=kB.frozen 4
  have nA5:=kA.cell 5
  have fA5:=kA.frozen 5
  have nB5:=kB.cell 5
  have fB5:=kB.frozen 5
  have nA6:=kA.cell 6
  have fA6:=kA.frozen 6
  have nB6:=kB.cell 6
  have fB6:=kB.frozen 6
  have nA7:=kA.cell 7
  have fA7:=kA.frozen 7
  have nB7:=kB.cell 7
  have fB7:=kB.frozen 7
  have hne2:gb≠ga:=Ne.symm hne
  clear hout hall hap hsz hdf h10 h11 h25 h28 h23 h24 h26 h27 kA kB oA oB hW hfre kA9 kB9 oA9 oB9 hB9 hga hgb hBW hnt
  rw [hfr]
  clear hfr
  simp only [show List.range 84=[0,1,2,3,4,5,6,7,8,9,10,11,12,13,14,15,16,17,18,19,20,21,22,23,24,25,26,27,28,29,30,31,32,33,34,35,36,37,38,39,40,41,42,43,44,45,46,47,48,49,50,51,52,53,54,55,56,57,58,59,60,61,62,63,64,65,66,67,68,69,70,71,72,73,74,75,76,77,78,79,80,81,82,83] from by decide,List.map_cons,List.map_nil,List.lookup_cons,List.lookup_nil]
  go_simp
  go_wp2
  go_meet
  exact ⟨ga,gb,Am,Bm,nm,cm,np,cp,rfl,rfl,HF⟩
 case rest =>
  obtain ⟨ga,gb,Am,Bm,nm,cm,np,cp,rfl,rfl,HX⟩:=hcut
  have Hb4:=hid HX.out.2.2.2.2.2.2.2
  have HR4:=hid (HR.out.up Hb4.out)
  have HA4:=hid (HA.out.up Hb4.out)
  have HBm4:=hid (HBm.out.up Hb4.out)
  have HE4:=hid (HE.out.up Hb4.out)
  have HkA:=hid HX.out.2.2.2.1
  have HkB:=hid HX.out.2.2.2.2.1
  have HFA:=hid HX.out.2.2.2.2.2.1
  have HFB:=hid HX.out.2.2.2.2.2.2.1
  have Hb04:=hid (Z0_ Hb3.out (le_refl _) Hb4.out)
  have hsl6:s.length≤1048576:=by omega
  have n0:=HkA.out.cell 0
  have n1:=HkA.out.cell 1
  have n2:=HkA.out.cell 2
  have n3:=HkA.out.cell 3
  have n4:=HkA.out.cell 4
  have n5:=HkA.out.cell 5
  have n6:=HkA.out.cell 6
  have n7:=HkA.out.cell 7
  clear HX K1 HTA HTB HBB HAB Hka Hkb HA HBm HE Hb4 HR
  go_wp2_with fail
  refine (U5_ a.n _ _ _ _ _ _ _ s _ HR4.out hsl6).mono ?_
  rintro e w5 ⟨vo,rfl,hro,hb5⟩
  rw [Ho.out] at hro
  have Hb05:=hid (Z0_ Hb04.out (le_refl _) hb5)
  have HRo:=hid hro
  have HR5:=hid (HR4.out.up hb5)
  have HA5:=hid (HA4.out.up hb5)
  have HBm5:=hid (HBm4.out.up hb5)
  have HE5:=hid (HE4.out.up hb5)
  have HkA5:=hid (HkA.out.below hb5 HkA.out.lt)
  have HkB5:=hid (HkB.out.below hb5 HkB.out.lt)
  have HFA5:=hid (HFA.out.up hb5)
  have HFB5:=hid (HFB.out.up hb5)
  obtain ⟨Ao,co,rfl,_⟩:=hro
  clear n0 n1 n2 n3 n4 n5 n6 n7 hb5 HR4 HA4 HBm4 HE4 HkA HkB HFA HFB Hb04
  have hca:=(mayI_iff.1 (D4_ HC.out.ia)).1
  obtain ⟨n,hnn⟩:∃ n:Nat,nN a=n:=⟨_,rfl⟩
  have hn:s.length+o.length=n:=by rw [← Ho.out,← hnn];exact Vq3 hca HSS.out
  rw [hnn] at hn64 hsl hol
  have hw0:IntKind.i64.wrap ((s.length:Int)+(o.length:Int))=(n:Int):=by rw [IntKind.wrap_i64];omega
  have hFAl:FA.length≤64:=by rw [← hFA];exact Nat.le_trans (Y3_ (S4_ (by omega))) (by omega)
  have hFBl:FB.length≤64:=by rw [← hFB];exact Nat.le_trans (Y3_ (S4_ (by rw [HC.out.nn];omega))) (by rw [HC.out.nn];omega)
  obtain ⟨F,hF⟩:∃ F:Int→Int→Bool,F=fun x y=>hasB FA x || indT a (Y2_ (Z7_ s [y]) [x]):=⟨_,rfl⟩
  obtain ⟨T,hT⟩:∃ T:Int→Int→Bool,T=fun x y=>hasB FB x || indT b (Y2_ (Z7_ s [y]) [x]):=⟨_,rfl⟩
  have Hplain:Hid (V2_ F T (J6_ s o s.length 0) n=adjG a b s):=hid (by rw [hF,hT,← hFA,← hFB,← Ho.out,← hnn];exact Xu3 HC.out)
  have HSA:Hid (∀ W,Below w5.heap.size w5 W→∀ x y:Int,Calls Tryz.prog 34 #[.agg #[.int .i64 a.t,.int .i64 a.n,.int .i64 a.a,.int .i64 a.b,.slice Al a.l.length cl,.slice Ai a.i.length ci,.slice As s.length cs,.slice Am nm cm],.int .i64 x,.int .i64 y] W (Says W (F x y))):=hid fun W hW x y=>by
   rw [hF]
   exact U6_ E a _ _ _ _ _ _ _ _ s FA x y W (HA5.out.up hW) Hsa.out (HR5.out.up hW) (HFA5.out.up hW) (by omega) hFAl (HE5.out.up hW)
  have HSB:Hid (∀ W,Below w5.heap.size w5 W→∀ x y:Int,Calls Tryz.prog 34 #[.agg #[.int .i64 b.t,.int .i64 b.n,.int .i64 b.a,.int .i64 b.b,.slice Bl b.l.length dl,.slice Bi b.i.length di,.slice As s.length cs,.slice Bm np cp],.int .i64 x,.int .i64 y] W (Says W (T x y))):=hid fun W hW x y=>by
   rw [hT]
   exact U6_ E b _ _ _ _ _ _ _ _ s FB x y W (HBm5.out.up hW) Hsb.out (HR5.out.up hW) (HFB5.out.up hW) (by omega) hFBl (HE5.out.up hW)
  have HSx:Hid (∀ i,i<s.length→∃ Y:Nat,s.getD i 0=(Y:Int)∧Y<n∧(Y:Int)∈s):=hid fun i hi=>by
   have hm:s.getD i 0∈s:=by rw [show s.getD i 0=s[i] by simp [List.getD,hi]];exact List.getElem_mem hi
   have h1:=HSS.out.2 _ hm
   exact ⟨(s.getD i 0).toNat,by omega,by omega,by rw [Int.toNat_of_nonneg h1.1];exact hm⟩
  have HOx0:Hid (∀ j,j<o.length→∃ X:Nat,o.getD j 0=(X:Int)∧X<n∧(X:Int)∉s):=hid fun j hj=>by
   have hm:o.getD j 0∈o:=by rw [show o.getD j 0=o[j] by simp [List.getD,hj]];exact List.getElem_mem hj
   have h1:=HoN.out.2 _ hm
   refine ⟨(o.getD j 0).toNat,by omega,by omega,?_⟩
   rw [Int.toNat_of_nonneg h1.1]
   rw [← Ho.out,X8_ (F6_ _) HSS.out.1] at hm
   rw [← Ho.out]
   exact hm.2
  have HFAe:=hid hFA
  have HFBe:=hid hFB
  clear HA5 HBm5 HE5 hF hT hFA hFB hca Hsa Hsb HC Ho HSS HoN hsl6
  obtain ⟨i0,hi,hz0,hz1,hz2⟩:=info_parts Yr2
  obtain ⟨k0,ki,kz0,kz1,kz2⟩:=info_parts info3
  go_wp2_with (at_make;refine wpList_make_full w5 rfl _ _ 22 rfl w5.heap.size 26 i0 (.slice none 0 0) 1 (by kernel_rfl) hi hz0 hz1 .i64 .i64 _ _ n rfl rfl (by rfl) (by rfl) (by rw [hz2];omega) (by unfold maxLen;omega) (le_refl _) ?_)
  intro w6 hown6 hg6
  obtain ⟨vs0,hvs0⟩:=AdjM.fresh (F:=F) (T:=T) (Yq2 (z:=.slice none 0 0) rfl hown6 (fun _=>undef))
  have HT0:Hid (AdjM w6 w5.heap.size vs0 (V2_ F T (J6_ s o 0 0) n)∧Below w5.heap.size w5 w6):=hid ⟨by rw [Yh3];exact hvs0,(Below.refl _ w5).grown hg6 (le_refl _) (fun i hi=>by cases hi)⟩
  clear hown6 hg6 hvs0
  go_wp2
  go_loopw [39] (fun vi wr=>∃ (i:Nat) (vs:List Value),vi=.int .i64 (i:Int)∧i≤s.length∧Hid (AdjM wr w5.heap.size vs (V2_ F T (J6_ s o i 0) n)∧Below w5.heap.size w5 wr)) (fun vi _=>s.length - (intOf vi).toNat)
  case atStart=>exact ⟨0,vs0,rfl,Nat.zero_le _,HT0⟩
  case round =>
   obtain ⟨i,vs,rfl,hil,HT⟩:=hrel
   clear HT0
   by_cases hlt:i<s.length
   ·obtain ⟨as_,hA,hcs⟩:=Row.nthV HR5.out hlt
    subst hA
    have hltI:(i:Int)<(s.length:Int):=by omega
    have gs:=hcs wr HT.out.2
    obtain ⟨Y,hY,hYn,hYm⟩:∃ Y:Nat,s.getD i 0=(Y:Int)∧Y<n∧(Y:Int)∈s:=HSx.out i hlt
    rw [hY] at gs
    have HYs:=hid hY
    have HOx:Hid (∀ j,j<o.length→∃ X:Nat,o.getD j 0=(X:Int)∧X<n∧(Y:Int)≠(X:Int)):=hid fun j hj=>by
     obtain ⟨X,h1,h2,h3⟩:=HOx0.out j hj
     exact ⟨X,h1,h2,fun e=>h3 (e▸hYm)⟩
    have hYI:(Y:Int)<(n:Int):=by omega
    have hw2:IntKind.i64.wrap ((i:Int)+1)=(i:Int)+1:=by rw [IntKind.wrap_i64];omega
    have HT1:=HT
    clear hcs hY hYm HT
    go_wp2
    go_loopw [45] (fun vj wr=>∃ (j:Nat) (vs:List Value),vj=.int .i64 (j:Int)∧j≤o.length∧Hid (AdjM wr w5.heap.size vs (V2_ F T (J6_ s o i j) n)∧Below w5.heap.size w5 wr)) (fun vj _=>o.length - (intOf vj).toNat)
    case atStart=>exact ⟨0,vs,rfl,Nat.zero_le _,HT1⟩
    case round =>
     obtain ⟨j,vs2,rfl,hjl,HT2⟩:=hrel
     clear HT1 gs
     by_cases hjt:j<o.length
     ·obtain ⟨ao,hA,hco⟩:=Row.nthV HRo.out hjt
      subst hA
      have hjtI:(j:Int)<(o.length:Int):=by omega
      have gx:=hco wr HT2.out.2
      obtain ⟨X,hX,hXn,hne⟩:∃ X:Nat,o.getD j 0=(X:Int)∧X<n∧(Y:Int)≠(X:Int):=HOx.out j hjt
      rw [hX] at gx
      have HL2:Hid (J6_ s o i (j+1)=J6_ s o i j ++ [((Y:Int),(X:Int))]):=hid (by rw [Yh4 hjt,HYs.out,hX])
      have hLl:(J6_ s o i j).length≤4160:=Yw3 (by omega) (by omega) (by omega)
      have HM6:=hid HT2.out.1
      have HB6:=hid HT2.out.2
      clear HT2
      generalize J6_ s o i j=L at *
      have hXI:(X:Int)<(n:Int):=by omega
      have hw1:IntKind.i64.wrap ((j:Int)+1)=(j:Int)+1:=by rw [IntKind.wrap_i64];omega
      have HkAr:=hid (HkA5.out.below HB6.out HkA5.out.lt)
      have n0:=HkAr.out.cell 0
      have n1:=HkAr.out.cell 1
      have n2:=HkAr.out.cell 2
      have n3:=HkAr.out.cell 3
      have n4:=HkAr.out.cell 4
      have n5:=HkAr.out.cell 5
      have n6:=HkAr.out.cell 6
      have n7:=HkAr.out.cell 7
      have HCa:=hid (HSA.out wr HB6.out (X:Int) (Y:Int))
      clear hco hX
      go_wp2_with fail
      refine HCa.out.mono ?_
      rintro e w7 ⟨rfl,hb7⟩
      have Hm7:=hid (HM6.out.below hb7)
      have Hb7:=hid (Z0_ HB6.out (le_refl _) hb7)
      clear hb7 HM6 HB6 HCa HkAr gx n0 n1 n2 n3 n4 n5 n6 n7
      rcases hf:F (X:Int) (Y:Int) with _ | _
      ·have HMh:=hid Hm7.out
       rw [← Xu0 hf] at HMh
       have HBh:=hid Hb7.out
       have HkBr:=hid (HkB5.out.below Hb7.out HkB5.out.lt)
       have m0:=HkBr.out.cell 0
       have m1:=HkBr.out.cell 1
       have m2:=HkBr.out.cell 2
       have m3:=HkBr.out.cell 3
       have m4:=HkBr.out.cell 4
       have m5:=HkBr.out.cell 5
       have m6:=HkBr.out.cell 6
       have m7:=HkBr.out.cell 7
       have HCb:=hid (HSB.out w7 Hb7.out (X:Int) (Y:Int))
       go_wp2_with fail
       refine HCb.out.mono ?_
       rintro e w10 ⟨rfl,hb10⟩
       have HM10:=hid (HMh.out.below hb10)
       have HB10:=hid (Z0_ HBh.out (le_refl _) hb10)
       clear hb10 m0 m1 m2 m3 m4 m5 m6 m7 HMh HBh Hm7 Hb7 HCb HkBr hf
       rcases ht:T (X:Int) (Y:Int) with _ | _
       ·have HMf:=hid HM10.out
        rw [Yw2 ht] at HMf
        go_wp2
        go_roundw
        case rel=>exact ⟨j+1,_,by go_num,by omega,by rw [HL2.out];exact HMf.out,HB10.out⟩
        case measure=>simp [intOf];omega
       ·have hAx:=HM10.out.at_ (i:=X) (by rw [Ya0];exact hXn)
        rw [Zc6 hXn hne] at hAx
        obtain ⟨A12,c12,hv12,gc,gf,ho12⟩:=hAx
        have hql:(V3_ F T L (X:Int)).length≤8320:=by have:=Zz1 F T (X:Int) L;omega
        generalize hq:V3_ F T L (X:Int)=q2 at *
        have hsz12:=HB10.out.size
        have Hfy:Hid ((J5_ F T L (Y:Int) (X:Int) n).set X (q2 ++ [(Y:Int)])=V2_ F T (L ++ [((Y:Int),(X:Int))]) n):=hid (by rw [← hq];exact Ya1 hXn hne ht)
        clear hq
        go_wp2_with (at_builtin;refine wpList_append_lies _ rfl _ _ 26 rfl (w5.heap.size+1) 3 k0 (.int .i64 0) 1 8 (by kernel_rfl) ki kz0 kz1 kz2 rfl (by decide) _ q2.length (ints q2) rfl (ho12.alloc _) _ 1 1 [.int .i64 (Y:Int)] rfl rfl (Zw6 _ _ _) (by intro u hu;simp at hu;subst hu;rfl) (by decide) (by unfold maxLen;omega) (by omega) (by simp;exact hsz12) _ rfl ?_)
        intro g12 cap12 v12 hown12 hg12 hat12 _
        have HM12:=hid (AdjM.more HM10.out hv12 hown12 hg12 hat12)
        have HD12:=hid (AdjM.mid HM10.out hv12 _ hg12)
        have gc12:v12.cell? ⟨w5.heap.size,X,none⟩=some (.slice A12 q2.length c12):=by rw [HD12.out.1.cell];simpa using hv12
        have gf12:=HD12.out.1.frozen X
        clear hown12 hg12 hat12
        have HMf:=hid (HM12.out.1)
        rw [Hfy.out] at HMf
        have HBf:=hid (HB10.out.trans (HM12.out.2))
        clear HM12 HD12 Hfy
        go_wp2
        go_roundw
        case rel=>exact ⟨j+1,_,by go_num,by omega,by rw [HL2.out];exact HMf.out,HBf.out⟩
        case measure=>simp [intOf];omega
      ·have hAy:=Hm7.out.at_ (i:=Y) (by rw [N3_];exact hYn)
       rw [Yh2 hYn] at hAy
       obtain ⟨A8,c8,hv8,gc,gf,ho8⟩:=hAy
       have hql:(V3_ F T L (Y:Int)).length≤8320:=by have:=Zz1 F T (Y:Int) L;omega
       generalize hq:V3_ F T L (Y:Int)=q at *
       have hsz8:=Hb7.out.size
       have Hhy:Hid ((V2_ F T L n).set Y (q ++ [(X:Int)])=J5_ F T L (Y:Int) (X:Int) n):=hid (by rw [← hq];exact Xf9 hYn hf)
       clear hq
       go_wp2_with (at_builtin;refine wpList_append_lies _ rfl _ _ 26 rfl (w5.heap.size+1) 3 k0 (.int .i64 0) 1 8 (by kernel_rfl) ki kz0 kz1 kz2 rfl (by decide) _ q.length (ints q) rfl (ho8.alloc _) _ 1 1 [.int .i64 (X:Int)] rfl rfl (Zw6 _ _ _) (by intro u hu;simp at hu;subst hu;rfl) (by decide) (by unfold maxLen;omega) (by omega) (by simp;exact hsz8) _ rfl ?_)
       intro g8 cap8 v8 hown8 hg8 hat8 _
       have HM8:=hid (AdjM.more Hm7.out hv8 hown8 hg8 hat8)
       have HD8:=hid (AdjM.mid Hm7.out hv8 _ hg8)
       have gc8:v8.cell? ⟨w5.heap.size,Y,none⟩=some (.slice A8 q.length c8):=by rw [HD8.out.1.cell];simpa using hv8
       have gf8:=HD8.out.1.frozen Y
       clear hown8 hg8 hat8
       have HMh:=hid (HM8.out.1)
       rw [Hhy.out] at HMh
       have HBh:=hid (Hb7.out.trans (HM8.out.2))
       have HBv:=hid (Hb7.out.trans (HD8.out.2))
       have HkBr:=hid (HkB5.out.below HBv.out HkB5.out.lt)
       have m0:=HkBr.out.cell 0
       have m1:=HkBr.out.cell 1
       have m2:=HkBr.out.cell 2
       have m3:=HkBr.out.cell 3
       have m4:=HkBr.out.cell 4
       have m5:=HkBr.out.cell 5
       have m6:=HkBr.out.cell 6
       have m7:=HkBr.out.cell 7
       have hgw:gb≠w5.heap.size:=Nat.ne_of_lt HkB5.out.lt
       have hgw2:w5.heap.size≠gb:=Ne.symm hgw
       have HCb:=hid (HSB.out _ HBh.out (X:Int) (Y:Int))
       go_wp2_with fail
       refine HCb.out.mono ?_
       rintro e w10 ⟨rfl,hb10⟩
       have HM10:=hid (HMh.out.below hb10)
       have HB10:=hid (Z0_ HBh.out (le_refl _) hb10)
       clear hb10 m0 m1 m2 m3 m4 m5 m6 m7 HMh HBh Hm7 Hb7 HCb HkBr hf HM8 HD8 Hhy HBv gc8 gf8 gc gf ho8 hql hsz8 hv8
       rcases ht:T (X:Int) (Y:Int) with _ | _
       ·have HMf:=hid HM10.out
        rw [Yw2 ht] at HMf
        go_wp2
        go_roundw
        case rel=>exact ⟨j+1,_,by go_num,by omega,by rw [HL2.out];exact HMf.out,HB10.out⟩
        case measure=>simp [intOf];omega
       ·have hAx:=HM10.out.at_ (i:=X) (by rw [Ya0];exact hXn)
        rw [Zc6 hXn hne] at hAx
        obtain ⟨A12,c12,hv12,gc,gf,ho12⟩:=hAx
        have hql:(V3_ F T L (X:Int)).length≤8320:=by have:=Zz1 F T (X:Int) L;omega
        generalize hq:V3_ F T L (X:Int)=q2 at *
        have hsz12:=HB10.out.size
        have Hfy:Hid ((J5_ F T L (Y:Int) (X:Int) n).set X (q2 ++ [(Y:Int)])=V2_ F T (L ++ [((Y:Int),(X:Int))]) n):=hid (by rw [← hq];exact Ya1 hXn hne ht)
        clear hq
        go_wp2_with (at_builtin;refine wpList_append_lies _ rfl _ _ 26 rfl (w5.heap.size+1) 3 k0 (.int .i64 0) 1 8 (by kernel_rfl) ki kz0 kz1 kz2 rfl (by decide) _ q2.length (ints q2) rfl (ho12.alloc _) _ 1 1 [.int .i64 (Y:Int)] rfl rfl (Zw6 _ _ _) (by intro u hu;simp at hu;subst hu;rfl) (by decide) (by unfold maxLen;omega) (by omega) (by simp;exact hsz12) _ rfl ?_)
        intro g12 cap12 v12 hown12 hg12 hat12 _
        have HM12:=hid (AdjM.more HM10.out hv12 hown12 hg12 hat12)
        have HD12:=hid (AdjM.mid HM10.out hv12 _ hg12)
        have gc12:v12.cell? ⟨w5.heap.size,X,none⟩=some (.slice A12 q2.length c12):=by rw [HD12.out.1.cell];simpa using hv12
        have gf12:=HD12.out.1.frozen X
        clear hown12 hg12 hat12
        have HMf:=hid (HM12.out.1)
        rw [Hfy.out] at HMf
        have HBf:=hid (HB10.out.trans (HM12.out.2))
        clear HM12 HD12 Hfy
        go_wp2
        go_roundw
        case rel=>exact ⟨j+1,_,by go_num,by omega,by rw [HL2.out];exact HMf.out,HBf.out⟩
        case measure=>simp [intOf];omega
     ·have hje:j=o.length:=by omega
      have hjtI:¬ (j:Int)<(o.length:Int):=by omega
      have HTn:Hid (AdjM wr w5.heap.size vs2 (V2_ F T (J6_ s o (i+1) 0) n)∧Below w5.heap.size w5 wr):=hid (by
       rw [← Yh5 hlt,← hje]
       exact HT2.out)
      clear HT2
      go_wp2
      go_roundw
      case rel=>exact ⟨i+1,vs2,by go_num,by omega,HTn⟩
      case measure=>simp [intOf];omega
   ·have hie:i=s.length:=by omega
    have hltI:¬ (i:Int)<(s.length:Int):=by omega
    have HkAr:=hid (HkA5.out.below HT.out.2 HkA5.out.lt)
    have HkBr:=hid (HkB5.out.below HT.out.2 HkB5.out.lt)
    have n7:=HkAr.out.cell 7
    have m7:=HkBr.out.cell 7
    have HBd:Hid (Below wr.heap.size wr wr.drew):=hid (Below.refl _ _).drew
    have HRF:Hid (Rows2 wr.drew wr.drew.heap.size (.slice (some ⟨w5.heap.size,0,none⟩) n n) (adjG a b s)):=hid (by
     have h:=HT.out.1.rows (by rw [N3_];omega)
     rw [N3_,hie,Hplain.out] at h
     exact h.up HBd.out)
    have HFAr:Hid (Row wr.drew wr.drew.heap.size (.slice Am nm cm) (addG a s)):=hid (by rw [HFAe.out];exact (HFA5.out.up HT.out.2).up HBd.out)
    have HFBr:Hid (Row wr.drew wr.drew.heap.size (.slice Bm np cp) (addG b s)):=hid (by rw [HFBe.out];exact (HFB5.out.up HT.out.2).up HBd.out)
    have HBr:=hid (Z0_ (Z0_ Hb05.out (le_refl _) HT.out.2) (le_refl _) HBd.out)
    clear HT
    go_upto_region 18 with fail
    go_region
    all_goals
     go_wp2
     refine bodyPost_ret (v:=.tuple #[.slice (some ⟨w5.heap.size,0,none⟩) n n,.slice Am nm cm,.slice Bm np cp,.int .i64 0]) (by simp [results,Tryz.results11,go_sem]) rfl ?_
     exact ⟨_,_,_,rfl,HRF.out,HFAr.out,HFBr.out,HBr.out⟩
end Wp
end Go.Proofs.YtgadbnbhgpehjaaGreatDoor
