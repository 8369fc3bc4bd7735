/- The program's swap, walked: a side, what it tells, and May (VSwap). -/
import Derived.Test.YteiejkhdonmcdaaGreatDoorZH
import Derived.Test.YteiejkhdonmcdaaGreatDoorZN
import Derived.Test.YteiejkhdonmcdaaGreatDoorZF
import Derived.Test.YteiejkhdonmcdaaGreatDoorZI
import Derived.Test.YteiejkhdonmcdaaGreatDoorZX
import Derived.Deep.RegionHeld3
import Derived.Test.YteiejkhdonmcdaaGreatDoorVTail
import Derived.Test.YteiejkhdonmcdaaGreatDoorX0A
import Derived.Test.YteiejkhdonmcdaaGreatDoorX0B
set_option maxHeartbeats 8000000
set_option maxRecDepth 100000
open Go.Lib (hid)
open Nat (le_refl)
namespace Go.Proofs.YteiejkhdonmcdaaGreatDoor.Wp
private theorem x12_ {P:Prop} (h:P:=by
 refine ⟨Op.move (Operand.tmp 2), 26,by kernel_rfl,fun a W _ hout _=>?_⟩
 have e2:a.tmps.getD 2 undef=sv:=(hout 2 (by kernel_rfl)).trans c.h2
 simp only [execOp,Act.eval,e2]
 go_simp
 exact ⟨Below.refl _ _,rfl,fun h=>absurd h (by decide)⟩):P:=h
private theorem x50_ {P:Prop} (h:P:=by
 refine ⟨Op.alloc 63,0,by kernel_rfl,fun a W _ _ _=>?_⟩
 simp only [execOp]
 go_simp
 exact ⟨(Below.refl _ W).alloc (le_refl _) _,⟨_,rfl,Blk.new W _ _⟩,fun _=>⟨_,rfl,le_refl _,by simp⟩⟩):P:=h
end Go.Proofs.YteiejkhdonmcdaaGreatDoor.Wp
namespace Go.Proofs.YteiejkhdonmcdaaGreatDoor
open Go Go.RowKit
namespace Wp
theorem Zv3 (n:Int) (k c2 c3 c4 c5 g q:Value) (s:List Int) (w:World) (p:Row w w.heap.size g s) (I:s.length≤1048576) :
  Calls Tryz.prog 49 #[.agg #[k,.int .i64 n,c2,c3,c4,c5,g,q]] w (Gives w (Z5_ (allL n) s)):=by
 obtain ⟨c,hW0⟩:∃ c,c=w.alloc (.cells #[k,.int .i64 n,c2,c3,c4,c5,g,q] 63):=⟨_,rfl⟩;have D:=hid hW0;have m:Below w.heap.size w c:=j41_;have v:Blk c w.heap.size 63 #[k,.int .i64 n,c2,c3,c4,c5,g,q]:=by rw [hW0];exact Blk.new w _ _
 have E:=hid m;have h:=hid v;have j:=hid ((p.up m).up (Below.refl _ c).drew);have H:=E4_ n;have G:Hid (∀ W,Below c.drew.heap.size c.drew W→W.cell? ⟨w.heap.size,1,none⟩=some (.int .i64 n)∧W.cell? ⟨w.heap.size,6,none⟩=some g):=hid fun W r=>⟨(h.out.drew.below r h.out.lt).cell 1,(h.out.drew.below r h.out.lt).cell 6⟩;have d:Hid (Below c.drew.heap.size c.drew c.drew):=hid (Below.refl _ _);obtain ⟨z,cs,rfl,_⟩:=id p;clear hW0 m v p
 go_enter Tryz.func49,Tryz.ntmps49
 go_wp2;rw [← D.out]
 go_region_held3 (fun W=>W.cell? ⟨w.heap.size,1,none⟩=some (.int .i64 n)∧W.cell? ⟨w.heap.size,6,none⟩=some (.slice z s.length cs))
  (exact G.out _ d.out)
  (first
  | (go_at_call 76;refine (L3_ n _).mono ?_;rintro e L ⟨K,rfl,x,o⟩;replace d:=hid (Z0_ d.out (le_refl _) o);replace j:=hid (j.out.up o);have B:=hid x;clear x o)
  | (go_at_call 57;refine (H5_ _ _ (allL n) s _ B.out j.out H I).mono ?_;rintro e M ⟨J,rfl,y,u⟩;replace d:=hid (Z0_ d.out (le_refl _) u);have C:=hid y;clear y u))
 all_goals
  have F:=hid (Z0_ E.out.drew (le_refl _) d.out);go_simp;go_wp2;go_ret;exact ⟨J,rfl,C.out,F.out⟩
theorem Zf3 (E:Nat→Addr) (m:Mat) (h c1 c2 c3 c4 c5 B y J:Value) (s:List Int) (x:Int) (w:World) (I:MatV w w.heap.size (.agg #[h,c1,c2,c3,c4,c5]) m) (hs:Sml m) (u:Row w w.heap.size J s) (U:s.length≤1000) (D:Env E w) :
  Calls Tryz.prog 75 #[.agg #[h,c1,c2,c3,c4,c5,B,y],J,.int .i64 x] w (Says w (indT m (Y1_ s [x]))):=by
 obtain ⟨d,hW0⟩:∃ d,d=w.alloc (.cells #[h,c1,c2,c3,c4,c5,B,y] 63):=⟨_,rfl⟩;have M:=hid hW0;have o:Below w.heap.size w d:=j41_;have G:Blk d w.heap.size 63 #[h,c1,c2,c3,c4,c5,B,y]:=by rw [hW0];exact Blk.new w _ _
 have O:=hid o;have c:=hid G;have p:=(Below.refl d.heap.size d).drew;have K:=hid ((u.up o).up p);have r:=hid ((I.up o).up p);have q:=hid ((D.up o).up p);have Q:=hid hs;have C:Hid (∀ W,Below d.drew.heap.size d.drew W→W.cell? ⟨w.heap.size,0,none⟩=some h∧W.cell? ⟨w.heap.size,1,none⟩=some c1∧W.cell? ⟨w.heap.size,2,none⟩=some c2∧W.cell? ⟨w.heap.size,3,none⟩=some c3∧W.cell? ⟨w.heap.size,4,none⟩=some c4∧W.cell? ⟨w.heap.size,5,none⟩=some c5):=hid fun W j=>⟨(c.out.drew.below j c.out.lt).cell 0,(c.out.drew.below j c.out.lt).cell 1,(c.out.drew.below j c.out.lt).cell 2,(c.out.drew.below j c.out.lt).cell 3,(c.out.drew.below j c.out.lt).cell 4,(c.out.drew.below j c.out.lt).cell 5⟩;have g:Hid (Below d.drew.heap.size d.drew d.drew):=hid (Below.refl _ _);have S:Hid ((Y1_ s [x]).length≤1048576):=hid (by have:=Zx0 s [x];simp only [List.length_cons,List.length_nil] at this;omega);have R:s.length≤1048576:=q39_;obtain ⟨z,v⟩:∃ z,indT m (Y1_ s [x])=z:=⟨_,rfl⟩;have N:=hid v;rw [v];obtain ⟨T,cs,rfl,_⟩:=id u;clear hW0 o G u I D hs p v
 go_enter Tryz.func75,Tryz.ntmps75
 go_wp2;rw [← M.out]
 go_region_held3 (fun W=>W.cell? ⟨w.heap.size,0,none⟩=some h∧W.cell? ⟨w.heap.size,1,none⟩=some c1∧W.cell? ⟨w.heap.size,2,none⟩=some c2∧W.cell? ⟨w.heap.size,3,none⟩=some c3∧W.cell? ⟨w.heap.size,4,none⟩=some c4∧W.cell? ⟨w.heap.size,5,none⟩=some c5)
  (first | exact C.out _ g.out | exact C.out _ (g.out.alloc (le_refl _) _))
  (first
  | (go_at_call 56;refine (Ze1 _ _ s [x] _ (K.out.upA _) (Row.here (Row.lit1 _ x)) R j39_).mono ?_;rintro e X ⟨V,rfl,H,k⟩;replace k:=Z0_ ((Below.refl _ d.drew).alloc (le_refl _) _) (le_refl _) k;replace g:=hid k;replace r:=hid (r.out.up k);replace q:=hid (q.out.up k);have L:=hid H;clear H k)
  | (go_at_call 53;refine (Ze9 E m _ _ _ _ r.out Q.out L.out S.out q.out).mono ?_;rintro e Y ⟨rfl,F⟩;rw [N.out];replace g:=hid (Z0_ g.out (le_refl _) F);clear F))
 all_goals
  have P:=hid (Z0_ O.out.drew (le_refl _) g.out);go_simp;go_wp2;go_ret;exact ⟨rfl,P.out⟩
theorem Ye0 (a b:List Int):(Z5_ a b).length≤a.length:=j28_
theorem Zv4 (E:Nat→Addr) (m:Mat) (o c1 c2 c3 c4 c5 I H:Value) (s M:List Int) (x y:Int) (w:World) (Y:MatV w w.heap.size (.agg #[o,c1,c2,c3,c4,c5]) m) (hs:Sml m) (N:Row w w.heap.size I s) (K:Row w w.heap.size H M) (x5:s.length≤64) (x4:M.length≤64) (S:Env E w) :
  Calls Tryz.prog 50 #[.agg #[o,c1,c2,c3,c4,c5,I,H],.int .i64 x,.int .i64 y] w (Says w (hasB M x || indT m (Y1_ (Z5_ s [y]) [x]))):=by
 obtain ⟨g,hW0⟩:∃ g,g=w.alloc (.cells #[o,c1,c2,c3,c4,c5,I,H] 63):=⟨_,rfl⟩;have Q:=hid hW0;have p:Below w.heap.size w g:=j41_;have U:Blk g w.heap.size 63 #[o,c1,c2,c3,c4,c5,I,H]:=by rw [hW0];exact Blk.new w _ _
 have R:=hid p;have c:=hid U;have u:=(Below.refl g.heap.size g).drew;have v:=hid (N.up p);have D:=hid (K.up p);have k:=hid (Y.up p);have j:=hid (S.up p);have Hs:=hid hs;have V:M.length≤1048576:=q39_;have x3:s.length≤1048576:=q39_;have x2:(Z5_ s [y]).length≤1000:=Nat.le_trans (Ye0 _ _) q39_;obtain ⟨J,cs,rfl,_⟩:=id N;obtain ⟨C,G,rfl,_⟩:=id K;obtain ⟨q,L⟩:∃ q,hasB M x=q:=⟨_,rfl⟩;have P:=hid L;obtain ⟨z,O⟩:∃ z,indT m (Y1_ (Z5_ s [y]) [x])=z:=⟨_,rfl⟩;have HZ:=hid O;rw [L,O];clear hW0 p U N K Y S hs O L;cases q
 ·have F:Hid (∀ W,Below g.drew.heap.size g.drew W→W.cell? ⟨w.heap.size,0,none⟩=some o∧W.cell? ⟨w.heap.size,1,none⟩=some c1∧W.cell? ⟨w.heap.size,2,none⟩=some c2∧W.cell? ⟨w.heap.size,3,none⟩=some c3∧W.cell? ⟨w.heap.size,4,none⟩=some c4∧W.cell? ⟨w.heap.size,5,none⟩=some c5∧W.cell? ⟨w.heap.size,6,none⟩=some (.slice J s.length cs)∧W.cell? ⟨w.heap.size,7,none⟩=some (.slice C M.length G)):=hid fun W d=>⟨(c.out.drew.below d c.out.lt).cell 0,(c.out.drew.below d c.out.lt).cell 1,(c.out.drew.below d c.out.lt).cell 2,(c.out.drew.below d c.out.lt).cell 3,(c.out.drew.below d c.out.lt).cell 4,(c.out.drew.below d c.out.lt).cell 5,(c.out.drew.below d c.out.lt).cell 6,(c.out.drew.below d c.out.lt).cell 7⟩
  have h:Hid (Below g.drew.heap.size g.drew g.drew):=hid (Below.refl _ _);replace v:=hid (v.out.up u);replace D:=hid (D.out.up u);replace k:=hid (k.out.up u);replace j:=hid (j.out.up u);clear u;rw [Bool.false_or]
  go_enter Tryz.func50,Tryz.ntmps50
  go_wp2;rw [← Q.out]
  go_region_held3 (fun W=>W.cell? ⟨w.heap.size,0,none⟩=some o∧W.cell? ⟨w.heap.size,1,none⟩=some c1∧W.cell? ⟨w.heap.size,2,none⟩=some c2∧W.cell? ⟨w.heap.size,3,none⟩=some c3∧W.cell? ⟨w.heap.size,4,none⟩=some c4∧W.cell? ⟨w.heap.size,5,none⟩=some c5∧W.cell? ⟨w.heap.size,6,none⟩=some (.slice J s.length cs)∧W.cell? ⟨w.heap.size,7,none⟩=some (.slice C M.length G))
   (first | exact F.out _ h.out | exact F.out _ (h.out.alloc h.out.size _))
   (first
   | (go_at_call 77;refine (Xf2 _ M x _ D.out V).mono ?_;rintro e w1 ⟨rfl,B⟩;rw [P.out];replace h:=hid (Z0_ h.out (le_refl _) B);replace v:=hid (v.out.up B);replace k:=hid (k.out.up B);replace j:=hid (j.out.up B);clear B)
   | (go_at_call 57;refine (H5_ _ _ s [y] _ (v.out.upA _) (Row.here (Row.lit1 _ y)) x3 j39_).mono ?_;rintro e w2 ⟨v2,rfl,X,r⟩;replace r:=Z0_ ((Below.refl _ _).alloc (le_refl _) _) (le_refl _) r;replace k:=hid (k.out.up r);replace j:=hid (j.out.up r);replace h:=hid (Z0_ h.out (le_refl _) r);have Z:=hid X;clear X r)
   | (go_at_call 75;refine (Zf3 E m _ _ _ _ _ _ _ _ _ _ x _ k.out Hs.out Z.out x2 j.out).mono ?_;rintro e w3 ⟨rfl,T⟩;rw [HZ.out];replace h:=hid (Z0_ h.out (le_refl _) T);clear T))
  all_goals
   have x0:=hid (Z0_ R.out.drew (le_refl _) h.out);go_simp;go_wp2;go_ret;exact ⟨rfl,x0.out⟩
 ·have F:Hid (∀ W,Below g.heap.size g W→W.cell? ⟨w.heap.size,0,none⟩=some o∧W.cell? ⟨w.heap.size,1,none⟩=some c1∧W.cell? ⟨w.heap.size,2,none⟩=some c2∧W.cell? ⟨w.heap.size,3,none⟩=some c3∧W.cell? ⟨w.heap.size,4,none⟩=some c4∧W.cell? ⟨w.heap.size,5,none⟩=some c5∧W.cell? ⟨w.heap.size,6,none⟩=some (.slice J s.length cs)∧W.cell? ⟨w.heap.size,7,none⟩=some (.slice C M.length G)):=hid fun W d=>⟨(c.out.below d c.out.lt).cell 0,(c.out.below d c.out.lt).cell 1,(c.out.below d c.out.lt).cell 2,(c.out.below d c.out.lt).cell 3,(c.out.below d c.out.lt).cell 4,(c.out.below d c.out.lt).cell 5,(c.out.below d c.out.lt).cell 6,(c.out.below d c.out.lt).cell 7⟩
  have Hh:Hid (∀ W,Below g.heap.size g W→Calls Tryz.prog 77 #[.slice C M.length G,.int .i64 x] W fun e w'=>e=.returned (.bool true)∧Below g.heap.size g w'):=hid fun W d=>(Xf2 _ M x W (D.out.up d) V).mono fun _ _ ⟨h2,h3⟩=>⟨by rw [h2,P.out],Z0_ d (le_refl _) h3⟩;rw [Bool.true_or];clear u
  go_enter Tryz.func50,Tryz.ntmps50
  go_wp2;rw [← Q.out];refine Z9_ g.heap.size g x39_ x39_ (Below.refl _ _) ?_
  iterate 15 (first
   | go_big_quiet_skip
   | go_big_quiet_step (with_reducible exact Hh.out _)
   | (go_big_quiet_want;apply Exists.intro;refine ⟨fun W d=>?_,?_⟩;(· obtain ⟨k0,k1,k2,k3,k4,k5,k6,k7⟩:=F.out W d;go_simp;first | exact rfl | exact ⟨rfl,rfl⟩);go_simp;go_big_quiet_on))
  refine wpQuiet_nil ?_;intro w7 x1;go_wp2;go_ret;exact ⟨rfl,Z0_ R.out (le_refl _) x1⟩
def W0_ (w:World) (c0 c1 c2 c3 c4 c5 sv:Value) (M:List Int) (e:Ending) (w':World):Prop:=∃ (A:Option Addr) (n c:Nat),e=.returned (.agg #[c0,c1,c2,c3,c4,c5,sv,.slice A n c])∧w'.ownsRow 0 3 1 (.slice A n c) M.length (ints M)∧Below w.heap.size w w'
theorem Row.storeS {w:World} {B:Nat} {v:Value} {l:List Int} (h:Row w B v l) {p:Addr} {A:Option Addr} {n c:Nat} (d:w.cell? p=some (.slice A n c)) (u:Value):Row (w.setCell p u) B v l:=by
 obtain ⟨f,j,r,q,m⟩:=h;refine ⟨f,j,r,q,fun k o=>?_⟩;obtain ⟨g,hA,hB,hc⟩:=m k o;refine ⟨g,hA,hB,?_⟩;rw [World.cell?_setCell_other _ _ _ _ (fun e=>by rw [e,hc] at d;cases d)];exact hc
theorem X0_ (w:World) (g i:Nat) (u:Value):w.grownBy (w.setCell ⟨g,i,none⟩ u) (some g):=N3_ (World.grownBy.refl w (some g)) (.inl rfl) u
theorem sw_no {a b:Nat} (c:a≤b+1) (d:b+3≤a):False:=q39_
theorem Xg1 {p:Int→Bool} {o:List Int} {k:Nat} (c:k<o.length):(o.take (k+1)).filter p=(o.take k).filter p ++ if p (o.getD k 0)=true then [o.getD k 0] else []:=by
 rw [List.take_succ_eq_append_getElem c,List.filter_append,show o[k]=o.getD k 0 by simp [List.getD,c],List.filter_cons];split<;>rfl
theorem Zl5 (E:Nat→Addr) (m:Mat) (d c:Option Addr) (q cl j g:Nat) (sv:Value) (s:List Int) (w:World) (hv:MatV w w.heap.size (.agg #[.int .i64 m.t,.int .i64 m.n,.int .i64 m.a,.int .i64 m.b,.slice d q cl,.slice c j g]) m) (hs:Sml m) (hr:Row w w.heap.size sv s) (yh:s.length≤64) (xx:(Z5_ (allL m.n) s).length≤64) (hE:Env E w) :
  Calls Tryz.prog 48 #[.agg #[.int .i64 m.t,.int .i64 m.n,.int .i64 m.a,.int .i64 m.b,.slice d q cl,.slice c j g],sv] w (W0_ w (.int .i64 m.t) (.int .i64 m.n) (.int .i64 m.a) (.int .i64 m.b) (.slice d q cl) (.slice c j g) sv ((Z5_ (allL m.n) s).filter fun x=>indT m (Y1_ s [x]))):=by
 have xl:=hv;obtain ⟨y,cs,yc,_⟩:=id hr;subst yc;obtain ⟨o,V⟩:∃ o,Z5_ (allL m.n) s=o:=⟨_,rfl⟩;obtain ⟨p,hp⟩:∃ p:Int→Bool,p=fun x=>indT m (Y1_ s [x]):=⟨_,rfl⟩;rw [← hp,V];rw [V] at xx;have HO:=hid V;have HP:=hid hp;obtain ⟨J,K⟩:∃ J,J=((w.alloc (.cells #[.int .i64 m.t,.int .i64 m.n,.int .i64 m.a,.int .i64 m.b,.slice d q cl,.slice c j g] 25)).alloc (.cells #[.int .i64 0,.int .i64 0,.int .i64 0,.int .i64 0,.slice none 0 0,.slice none 0 0,.slice none 0 0,.slice none 0 0] 63)).alloc (.cells #[.int .i64 m.t,.int .i64 m.n,.int .i64 m.a,.int .i64 m.b,.slice d q cl,.slice c j g,.slice y s.length cs,.slice none 0 0] 63):=⟨_,rfl⟩;have x8:=hid K;have xh:Below w.heap.size w J:=by rw [K];exact (((Below.refl _ w).alloc (le_refl _) _).alloc j39_ _).alloc k39_ _
 have xo:Blk J (w.heap.size+1) 63 #[.int .i64 0,.int .i64 0,.int .i64 0,.int .i64 0,.slice none 0 0,.slice none 0 0,.slice none 0 0,.slice none 0 0]:=by
  rw [K];have:=(Blk.new (w.alloc (.cells #[.int .i64 m.t,.int .i64 m.n,.int .i64 m.a,.int .i64 m.b,.slice d q cl,.slice c j g] 25)) 63 #[.int .i64 0,.int .i64 0,.int .i64 0,.int .i64 0,.slice none 0 0,.slice none 0 0,.slice none 0 0,.slice none 0 0]).alloc (.cells #[.int .i64 m.t,.int .i64 m.n,.int .i64 m.a,.int .i64 m.b,.slice d q cl,.slice c j g,.slice y s.length cs,.slice none 0 0] 63);simpa using this
 have xj:Blk J (w.heap.size+1+1) 63 #[.int .i64 m.t,.int .i64 m.n,.int .i64 m.a,.int .i64 m.b,.slice d q cl,.slice c j g,.slice y s.length cs,.slice none 0 0]:=by
  rw [K];have:=Blk.new ((w.alloc (.cells #[.int .i64 m.t,.int .i64 m.n,.int .i64 m.a,.int .i64 m.b,.slice d q cl,.slice c j g] 25)).alloc (.cells #[.int .i64 0,.int .i64 0,.int .i64 0,.int .i64 0,.slice none 0 0,.slice none 0 0,.slice none 0 0,.slice none 0 0] 63)) 63 #[.int .i64 m.t,.int .i64 m.n,.int .i64 m.a,.int .i64 m.b,.slice d q cl,.slice c j g,.slice y s.length cs,.slice none 0 0];simpa using this
 have xn:J.heap.size=w.heap.size+3:=by rw [K];simp
 have Z:=hid xh;have x4:=hid xo;have x2:=hid xj;have xc:=hid xn;have Hr:=hid hr;have HV:=hid xl;have HE:=hid hE;have Hs:=hid hs;have ya:s.length≤1048576:=q39_;have yb:s.length≤1000:=q39_;have yg:(o.length:Int)≤64:=q39_;clear K xh xo xj xn hr xl hE hs V hp
 go_enter Tryz.func48,Tryz.ntmps48
 go_wp2_with fail
 rw [← x8.out];refine (Zv3 m.n _ _ _ _ _ _ _ s _ (Hr.out.up Z.out) ya).mono ?_;rintro e F ⟨vo,rfl,x6,N⟩;rw [HO.out] at x6;have M:=hid x6;obtain ⟨Ao,co,rfl,_⟩:=x6;have x9:=hid (Z0_ Z.out (le_refl _) N);have xf:=hid (x4.out.below N x4.out.lt);have xb:=hid (x2.out.below N x2.out.lt);have P:Hid (w.heap.size+3≤F.heap.size):=hid (by rw [← xc.out];exact N.size);clear N x4 x2 Z x8 xc;go_wp2
 go_loopw [14] (fun vk wr=>∃ (k:Nat) (z:Option Addr) (nm B:Nat),vk=.int .i64 (k:Int)∧k≤o.length∧Hid (Blk wr (w.heap.size+1) 63 #[.int .i64 0,.int .i64 0,.int .i64 0,.int .i64 0,.slice none 0 0,.slice none 0 0,.slice none 0 0,.slice none 0 0]∧Blk wr (w.heap.size+1+1) 63 #[.int .i64 m.t,.int .i64 m.n,.int .i64 m.a,.int .i64 m.b,.slice d q cl,.slice c j g,.slice y s.length cs,.slice z nm B]∧wr.ownsRow F.heap.size 3 1 (.slice z nm B) ((o.take k).filter p).length (ints ((o.take k).filter p))∧Row wr F.heap.size (.slice Ao o.length co) o∧Below w.heap.size w wr∧F.heap.size≤wr.heap.size)) (fun vk _=>o.length - (intOf vk).toNat)
 case atStart=>exact ⟨0,none,0,0,rfl,Nat.zero_le _,xf.out,xb.out,World.ownsRow_nil _ _ _ _,M.out,x9.out,le_refl _⟩
 case round =>
  obtain ⟨k,z,nm,B,rfl,hk,H⟩:=hrel;clear xf xb M x9;have r:=hid H.out.1;have u:=hid H.out.2.1;have x3:=hid H.out.2.2.1;have M:=hid H.out.2.2.2.1;have x0:=hid H.out.2.2.2.2.1;have xe:=hid H.out.2.2.2.2.2;clear H;by_cases xk:k<o.length
  ·have y8:(k:Int)<(o.length:Int):=by omega
   obtain ⟨ao,hA,xi⟩:=Row.nthV M.out xk;subst hA;have gx:=xi wr (Below.refl _ _);have xd:=hid (Xg1 (p:=p) xk);have yf:((o.take k).filter p).length≤64:=Nat.le_trans (List.length_filter_le _ _) y42_;generalize o.getD k 0=x at *
   generalize (o.take k).filter p=L at *
   have HC:Hid (∀ W,Below w.heap.size w W→Calls Tryz.prog 75 #[.agg #[.int .i64 m.t,.int .i64 m.n,.int .i64 m.a,.int .i64 m.b,.slice d q cl,.slice c j g,.slice y s.length cs,.slice z nm B],.slice y s.length cs,.int .i64 x] W (Says W (p x))):=hid fun W hW=>by rw [HP.out];exact Zf3 E m _ _ _ _ _ _ _ _ _ s x W (HV.out.up hW) Hs.out (Hr.out.up hW) yb (HE.out.up hW)
   have xq:=hid (HC.out wr x0.out);have d0:=u.out.cell 0;have d1:=u.out.cell 1;have d2:=u.out.cell 2;have d3:=u.out.cell 3;have d4:=u.out.cell 4;have d5:=u.out.cell 5;have d6:=u.out.cell 6;have R:=u.out.cell 7;have yi:IntKind.i64.wrap ((k:Int)+1)=(k:Int)+1:=q40_;clear xi HC
   go_wp2_with fail
   refine xq.out.mono ?_;rintro e w2 ⟨rfl,I⟩;have xg:=hid (r.out.below I r.out.lt);have x1:=hid (u.out.below I u.out.lt);have O:=hid (M7_ x3.out I);have x7:=hid (M.out.below (I.mono xe.out));have xa:=hid (Z0_ x0.out (le_refl _) I);have Q:=hid (Nat.le_trans xe.out I.size);clear I d0 d1 d2 d3 d4 d5 d6 R gx;rcases hpx:p x with _ | _
   ·have Hn:Hid ((o.take (k+1)).filter p=L):=hid (by rw [xd.out,if_neg (by rw [hpx];decide),List.append_nil])
    clear hpx;go_wp2
    go_roundw
    case rel=>exact ⟨k+1,z,nm,B,j40_,q39_,xg.out,x1.out,by rw [Hn.out];exact O.out,x7.out,xa.out,Q.out⟩
    case measure=>simp [intOf];omega
   ·have Hn:Hid ((o.take (k+1)).filter p=L ++ [x]):=hid (by rw [xd.out,if_pos hpx])
    have R:=x1.out.cell 7;clear hpx;have yd:F.heap.size≤w2.heap.size+1:=Nat.le_trans Q.out (Nat.le_succ _)
    go_wp2_with (at_builtin;refine Z4_ rfl _ _ rfl F.heap.size _ _ _ L [x] rfl rfl (World.ownsRow.alloc O.out _) (Row.lit1 _ x) q39_ j39_ (by simp;exact yd) ?_)
    intro v8 Y X U;have x5:∀ i,(Value.slice z nm B).ownBlock=some i→w.heap.size+3≤i:=fun i hi=>Nat.le_trans P.out (World.ownsRow.lt O.out i hi).1;have xp:=(xg.out.alloc (.cells #[.int .i64 x] 3)).grown U (fun e=>by have:=x5 _ e.symm;omega);have T:=(x1.out.alloc (.cells #[.int .i64 x] 3)).grown U (fun e=>by have:=x5 _ e.symm;omega);have S:Below F.heap.size w2 Y:=((Below.refl _ w2).alloc Q.out (.cells #[.int .i64 x] 3)).grown U k39_ (fun i hi=>(World.ownsRow.lt O.out i hi).1);obtain ⟨C,D,ye⟩:=Q1_ X;subst ye;have e7:=T.cell 7;have f7:=T.frozen 7;have xw:=hid (xp.far (p:=⟨w.heap.size+1+1,7,none⟩) (by show w.heap.size+1≠w.heap.size+1+1;omega) (.slice C (L.length+1) D));have xt:=hid (T.set_ 7 (.slice C (L.length+1) D));have xu:Hid ((Y.setCell ⟨w.heap.size+1+1,7,none⟩ (.slice C (L.length+1) D)).ownsRow F.heap.size 3 1 (.slice C (L.length+1) D) (L.length+1) (ints (L ++ [x]))):=hid (World.ownsRow.kept X (N3_ (World.grownBy.refl Y (some (w.heap.size+1+1))) (.inl rfl) _) (by
     rcases hb:(Value.slice C (L.length+1) D).ownBlock with _ | i
     ·exact .inl rfl
     ·right
      intro e;injection e with e;have h1:=(World.ownsRow.lt X i hb).1;have h2:=P.out;omega))
    have xr:=hid ((x7.out.below S).storeS e7 (.slice C (L.length+1) D));have xs:=hid ((xa.out.trans (S.mono (by have:=P.out;omega))).setCell (p:=⟨w.heap.size+1+1,7,none⟩) (by show w.heap.size≤w.heap.size+1+1;omega) (.slice C (L.length+1) D));have xv:Hid (F.heap.size≤(Y.setCell ⟨w.heap.size+1+1,7,none⟩ (.slice C (L.length+1) D)).heap.size):=hid (by simp [World.setCell];exact Nat.le_trans Q.out S.size);clear X U xp T S x5 R;go_wp2
    go_roundw
    case rel=>exact ⟨k+1,C,L.length+1,D,j40_,q39_,xw.out,xt.out,by rw [Hn.out,List.length_append];exact xu.out,xr.out,xs.out,xv.out⟩
    case measure=>simp [intOf];omega
  ·have xz:k=o.length:=by omega
   have HL:Hid ((o.take k).filter p=o.filter p):=hid (by rw [xz,List.take_length]);have y8:¬ (k:Int)<(o.length:Int):=q39_;have d0:=u.out.cell 0;have d1:=u.out.cell 1;have d2:=u.out.cell 2;have d3:=u.out.cell 3;have d4:=u.out.cell 4;have d5:=u.out.cell 5;have d6:=u.out.cell 6;have R:=u.out.cell 7;have z0:=r.out.cell 0;have z1:=r.out.cell 1;have z2:=r.out.cell 2;have z3:=r.out.cell 3;have z4:=r.out.cell 4;have z5:=r.out.cell 5;have z6:=r.out.cell 6;have z7:=r.out.cell 7;have y0:=r.out.frozen 0;have y1:=r.out.frozen 1;have y2:=r.out.frozen 2;have y3:=r.out.frozen 3;have y4:=r.out.frozen 4;have y5:=r.out.frozen 5;have y6:=r.out.frozen 6;have y7:=r.out.frozen 7;go_wp2;have G:Blk ((((((((wr.setCell ⟨w.heap.size+1,0,none⟩ (.int .i64 m.t)).setCell ⟨w.heap.size+1,1,none⟩ (.int .i64 m.n)).setCell ⟨w.heap.size+1,2,none⟩ (.int .i64 m.a)).setCell ⟨w.heap.size+1,3,none⟩ (.int .i64 m.b)).setCell ⟨w.heap.size+1,4,none⟩ (.slice d q cl)).setCell ⟨w.heap.size+1,5,none⟩ (.slice c j g)).setCell ⟨w.heap.size+1,6,none⟩ (.slice y s.length cs)).setCell ⟨w.heap.size+1,7,none⟩ (.slice z nm B)) (w.heap.size+1) 63 #[.int .i64 m.t,.int .i64 m.n,.int .i64 m.a,.int .i64 m.b,.slice d q cl,.slice c j g,.slice y s.length cs,.slice z nm B]:=by
    have h:=((((((((r.out.set_ 0 (.int .i64 m.t)).set_ 1 (.int .i64 m.n)).set_ 2 (.int .i64 m.a)).set_ 3 (.int .i64 m.b)).set_ 4 (.slice d q cl)).set_ 5 (.slice c j g)).set_ 6 (.slice y s.length cs)).set_ 7 (.slice z nm B));exact x28_
   have xy:Below w.heap.size w ((((((((wr.setCell ⟨w.heap.size+1,0,none⟩ (.int .i64 m.t)).setCell ⟨w.heap.size+1,1,none⟩ (.int .i64 m.n)).setCell ⟨w.heap.size+1,2,none⟩ (.int .i64 m.a)).setCell ⟨w.heap.size+1,3,none⟩ (.int .i64 m.b)).setCell ⟨w.heap.size+1,4,none⟩ (.slice d q cl)).setCell ⟨w.heap.size+1,5,none⟩ (.slice c j g)).setCell ⟨w.heap.size+1,6,none⟩ (.slice y s.length cs)).setCell ⟨w.heap.size+1,7,none⟩ (.slice z nm B)):=((((((((x0.out.setCell (p:=⟨w.heap.size+1,0,none⟩) (Nat.le_succ _) _).setCell (p:=⟨w.heap.size+1,1,none⟩) (Nat.le_succ _) _).setCell (p:=⟨w.heap.size+1,2,none⟩) (Nat.le_succ _) _).setCell (p:=⟨w.heap.size+1,3,none⟩) (Nat.le_succ _) _).setCell (p:=⟨w.heap.size+1,4,none⟩) (Nat.le_succ _) _).setCell (p:=⟨w.heap.size+1,5,none⟩) (Nat.le_succ _) _).setCell (p:=⟨w.heap.size+1,6,none⟩) (Nat.le_succ _) _).setCell (p:=⟨w.heap.size+1,7,none⟩) (Nat.le_succ _) _);have y9:=V3_ (V3_ (V3_ (V3_ (V3_ (V3_ (V3_ (X0_ wr (w.heap.size+1) 0 (.int .i64 m.t)) (X0_ _ (w.heap.size+1) 1 (.int .i64 m.n))) (X0_ _ (w.heap.size+1) 2 (.int .i64 m.a))) (X0_ _ (w.heap.size+1) 3 (.int .i64 m.b))) (X0_ _ (w.heap.size+1) 4 (.slice d q cl))) (X0_ _ (w.heap.size+1) 5 (.slice c j g))) (X0_ _ (w.heap.size+1) 6 (.slice y s.length cs))) (X0_ _ (w.heap.size+1) 7 (.slice z nm B));generalize ((((((((wr.setCell ⟨w.heap.size+1,0,none⟩ (.int .i64 m.t)).setCell ⟨w.heap.size+1,1,none⟩ (.int .i64 m.n)).setCell ⟨w.heap.size+1,2,none⟩ (.int .i64 m.a)).setCell ⟨w.heap.size+1,3,none⟩ (.int .i64 m.b)).setCell ⟨w.heap.size+1,4,none⟩ (.slice d q cl)).setCell ⟨w.heap.size+1,5,none⟩ (.slice c j g)).setCell ⟨w.heap.size+1,6,none⟩ (.slice y s.length cs)).setCell ⟨w.heap.size+1,7,none⟩ (.slice z nm B))=w9 at *
   have xm:=World.ownsRow.kept x3.out y9 (.inr fun e=>sw_no (World.ownsRow.lt x3.out _ e).1 P.out);have k0:w9.cell? ⟨w.heap.size+1,0,none⟩=some (.int .i64 m.t):=G.cell 0;have k1:w9.cell? ⟨w.heap.size+1,1,none⟩=some (.int .i64 m.n):=G.cell 1;have k2:w9.cell? ⟨w.heap.size+1,2,none⟩=some (.int .i64 m.a):=G.cell 2;have k3:w9.cell? ⟨w.heap.size+1,3,none⟩=some (.int .i64 m.b):=G.cell 3;have k4:w9.cell? ⟨w.heap.size+1,4,none⟩=some (.slice d q cl):=G.cell 4;have k5:w9.cell? ⟨w.heap.size+1,5,none⟩=some (.slice c j g):=G.cell 5;have k6:w9.cell? ⟨w.heap.size+1,6,none⟩=some (.slice y s.length cs):=G.cell 6;have k7:w9.cell? ⟨w.heap.size+1,7,none⟩=some (.slice z nm B):=G.cell 7;refine bodyPost_ret (v:=.agg #[.int .i64 m.t,.int .i64 m.n,.int .i64 m.a,.int .i64 m.b,.slice d q cl,.slice c j g,.slice y s.length cs,.slice z nm B]) ?_ rfl ?_
   ·simp [results,Tryz.results48,go_sem,k0,k1,k2,k3,k4,k5,k6,k7]
   ·rw [HL.out] at xm
    exact ⟨_,_,_,rfl,L.own_le xm (Nat.zero_le _),xy⟩
open Go Go.RowKit
noncomputable def opsG:Array Oper:=regOf 3 (Tryz.f16.body.getD .skip)
def sideK (c0 c1 c2 c3 c4 c5 sv:Value) (M:List Int):KindT:=⟨fun v W=>∃ (A:Option Addr) (n c:Nat),v=.agg #[c0,c1,c2,c3,c4,c5,sv,.slice A n c]∧W.ownsRow 0 3 1 (.slice A n c) M.length (ints M),fun {_ _ _} h hb=>by
 obtain ⟨A,n,c,h1,h2⟩:=h;exact ⟨A,n,c,h1,M7_ h2 hb⟩⟩
structure GxC (a0:Act) (w0:World) (B1 B2:Nat) (c0 c1 c2 c3 c4 c5 d0 d1 d2 d3 d4 d5 sv:Value) (FA FB:List Int):Prop where
 h2:a0.tmps.getD 2 undef=sv
 h3:a0.tmps.getD 3 undef=.pointer (some ⟨B1,0,none⟩)
 h4:a0.tmps.getD 4 undef=.pointer (some ⟨B2,0,none⟩)
 hK:∀ W,Below w0.heap.size w0 W→W.cell? ⟨B1,0,none⟩=some c0∧W.cell? ⟨B1,1,none⟩=some c1∧W.cell? ⟨B1,2,none⟩=some c2∧W.cell? ⟨B1,3,none⟩=some c3∧W.cell? ⟨B1,4,none⟩=some c4∧W.cell? ⟨B1,5,none⟩=some c5∧W.cell? ⟨B2,0,none⟩=some d0∧W.cell? ⟨B2,1,none⟩=some d1∧W.cell? ⟨B2,2,none⟩=some d2∧W.cell? ⟨B2,3,none⟩=some d3∧W.cell? ⟨B2,4,none⟩=some d4∧W.cell? ⟨B2,5,none⟩=some d5
 hA:∀ W,Below w0.heap.size w0 W→Calls Tryz.prog 48 #[.agg #[c0,c1,c2,c3,c4,c5],sv] W (W0_ W c0 c1 c2 c3 c4 c5 sv FA)
 hB:∀ W,Below w0.heap.size w0 W→Calls Tryz.prog 48 #[.agg #[d0,d1,d2,d3,d4,d5],sv] W (W0_ W d0 d1 d2 d3 d4 d5 sv FB)
def frG (i:Nat):Bool:=i==6 || i==7
def ksG (c0 c1 c2 c3 c4 c5 d0 d1 d2 d3 d4 d5 sv:Value) (FA FB:List Int):List KindT:=[.eq (.agg #[c0,c1,c2,c3,c4,c5]),.eq (sv),(sideK c0 c1 c2 c3 c4 c5 sv FA),.eq (.agg #[d0,d1,d2,d3,d4,d5]),.eq (sv),(sideK d0 d1 d2 d3 d4 d5 sv FB),.box 63 #[.int .i64 0,.int .i64 0,.int .i64 0,.int .i64 0,.slice none 0 0,.slice none 0 0,.slice none 0 0,.slice none 0 0],.box 63 #[.int .i64 0,.int .i64 0,.int .i64 0,.int .i64 0,.slice none 0 0,.slice none 0 0,.slice none 0 0,.slice none 0 0]]
theorem gx_0 {f:Act} {w0:World} {B1 B2:Nat} {g c1 c2 c3 c4 c5 j k m o p q r:Value} {d e:List Int} (c:GxC f w0 B1 B2 g c1 c2 c3 c4 c5 j k m o p q r d e):ObT Tryz.prog opsG (ksG g c1 c2 c3 c4 c5 j k m o p q r d e) frG 8 f w0 0:=by
 refine ⟨Op.load 25 (Operand.tmp 3), 25,x39_,fun a W hb u _=>?_⟩;obtain ⟨v,w,x,y,z,B,C,D,E,F,G,H⟩:=c.hK W hb;have s:a.tmps.getD 3 undef=.pointer (some ⟨B1,0,none⟩):=(u 3 x39_).trans c.h3;simp only [execOp,Act.eval,s];go_simp;exact ⟨Below.refl _ _,rfl,fun h=>absurd h x40_⟩
theorem gx_1 {f:Act} {w0:World} {B1 B2:Nat} {g c1 c2 c3 c4 c5 j k m o p q sv:Value} {d e:List Int} (c:GxC f w0 B1 B2 g c1 c2 c3 c4 c5 j k m o p q sv d e):ObT Tryz.prog opsG (ksG g c1 c2 c3 c4 c5 j k m o p q sv d e) frG 8 f w0 1:=x12_
theorem gx_2 {m:Act} {w0:World} {B1 B2:Nat} {d c1 c2 c3 c4 c5 o p q r s u g:Value} {j k:List Int} (c:GxC m w0 B1 B2 d c1 c2 c3 c4 c5 o p q r s u g j k):ObT Tryz.prog opsG (ksG d c1 c2 c3 c4 c5 o p q r s u g j k) frG 8 m w0 2:=by
 refine ⟨Op.call { callee:=Callee.value (Operand.func 48),args:=#[Operand.tmp 23,Operand.tmp 24],argTypes:=#[25, 26] }, 63,x39_,fun a W hb _ v=>?_⟩;have B:a.tmps.getD 23 undef=.agg #[d,c1,c2,c3,c4,c5]:=v 0 23 x39_ x39_;have C:a.tmps.getD 24 undef=g:=v 1 24 x39_ x39_;simp only [execOp];go_simp;exact ⟨Below.refl _ _,(c.hA W hb).mono fun e D ⟨A,n,w,y,z,x⟩=>⟨_,y,x,⟨A,n,w,rfl,z⟩,fun h=>absurd h x40_⟩⟩
theorem gx_3 {f:Act} {w0:World} {B1 B2:Nat} {g c1 c2 c3 c4 c5 j k m o p q r:Value} {d e:List Int} (c:GxC f w0 B1 B2 g c1 c2 c3 c4 c5 j k m o p q r d e):ObT Tryz.prog opsG (ksG g c1 c2 c3 c4 c5 j k m o p q r d e) frG 8 f w0 3:=by
 refine ⟨Op.load 25 (Operand.tmp 4), 25,x39_,fun a W hb u _=>?_⟩;obtain ⟨v,w,x,y,z,B,C,D,E,F,G,H⟩:=c.hK W hb;have s:a.tmps.getD 4 undef=.pointer (some ⟨B2,0,none⟩):=(u 4 x39_).trans c.h4;simp only [execOp,Act.eval,s];go_simp;exact ⟨Below.refl _ _,rfl,fun h=>absurd h x40_⟩
theorem gx_4 {f:Act} {w0:World} {B1 B2:Nat} {g c1 c2 c3 c4 c5 j k m o p q sv:Value} {d e:List Int} (c:GxC f w0 B1 B2 g c1 c2 c3 c4 c5 j k m o p q sv d e):ObT Tryz.prog opsG (ksG g c1 c2 c3 c4 c5 j k m o p q sv d e) frG 8 f w0 4:=x12_
theorem gx_5 {s:Act} {w0:World} {B1 B2:Nat} {u c1 c2 c3 c4 c5 d g j k m o p:Value} {q r:List Int} (c:GxC s w0 B1 B2 u c1 c2 c3 c4 c5 d g j k m o p q r):ObT Tryz.prog opsG (ksG u c1 c2 c3 c4 c5 d g j k m o p q r) frG 8 s w0 5:=by
 refine ⟨Op.call { callee:=Callee.value (Operand.func 48),args:=#[Operand.tmp 26,Operand.tmp 27],argTypes:=#[25, 26] }, 63,x39_,fun a W hb _ v=>?_⟩;have B:a.tmps.getD 26 undef=.agg #[d,g,j,k,m,o]:=v 3 26 x39_ x39_;have C:a.tmps.getD 27 undef=p:=v 4 27 x39_ x39_;simp only [execOp];go_simp;exact ⟨Below.refl _ _,(c.hB W hb).mono fun e D ⟨A,n,w,y,z,x⟩=>⟨_,y,x,⟨A,n,w,rfl,z⟩,fun h=>absurd h x40_⟩⟩
theorem gx_6 {e:Act} {w0:World} {B1 B2:Nat} {f c1 c2 c3 c4 c5 g h j k m o p:Value} {c d:List Int} (_c:GxC e w0 B1 B2 f c1 c2 c3 c4 c5 g h j k m o p c d):ObT Tryz.prog opsG (ksG f c1 c2 c3 c4 c5 g h j k m o p c d) frG 8 e w0 6:=x50_
theorem gx_7 {e:Act} {w0:World} {B1 B2:Nat} {f c1 c2 c3 c4 c5 g h j k m o p:Value} {c d:List Int} (_c:GxC e w0 B1 B2 f c1 c2 c3 c4 c5 g h j k m o p c d):ObT Tryz.prog opsG (ksG f c1 c2 c3 c4 c5 g h j k m o p c d) frG 8 e w0 7:=x50_
theorem F4_ {p:Nat→Prop} {n:Nat} (h:∀ i,i<n→p i) (c:p n):∀ i,i<n+1→p i:=fun i d=>if e:i=n then e▸c else h i q39_
theorem Vr2 {f:Act} {w0:World} {B1 B2:Nat} {g c1 c2 c3 c4 c5 h k m o p q r:Value} {d e:List Int} (c:GxC f w0 B1 B2 g c1 c2 c3 c4 c5 h k m o p q r d e):∀ j,j<8→ObT Tryz.prog opsG (ksG g c1 c2 c3 c4 c5 h k m o p q r d e) frG 8 f w0 j:=by
 have s:∀ j,j<0→ObT Tryz.prog opsG (ksG g c1 c2 c3 c4 c5 h k m o p q r d e) frG 8 f w0 j:=fun j C=>absurd C (Nat.not_lt_zero j);have u:=F4_ s (gx_0 c);clear s;have v:=F4_ u (gx_1 c);clear u;have w:=F4_ v (gx_2 c);clear v;have x:=F4_ w (gx_3 c);clear w;have y:=F4_ x (gx_4 c);clear x;have z:=F4_ y (gx_5 c);clear y;have B:=F4_ z (gx_6 c);clear z;have D:=F4_ B (gx_7 c);clear B;exact D
end Wp
end Go.Proofs.YteiejkhdonmcdaaGreatDoor
