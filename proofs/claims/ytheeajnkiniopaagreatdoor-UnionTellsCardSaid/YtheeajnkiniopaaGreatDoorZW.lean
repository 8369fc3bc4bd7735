/- The program's picked and edges, walked: rows that are made and filled. The program's ofClasses and between, walked. What the layers below tell of the elements that are picked is the rank: plain. The program's rank of a set of elements, walked. The program's ofOne, ofSum and rank, walked. The program's ofSum, and rank as a whole, walked. -/
import Derived.Test.YtheeajnkiniopaaGreatDoorZJ
import Derived.Test.YtheeajnkiniopaaGreatDoorZA
import Derived.Test.YtheeajnkiniopaaGreatDoorZL
import Derived.Test.YtheeajnkiniopaaGreatDoorIRank
import Derived.Test.YtheeajnkiniopaaGreatDoorZO
import Derived.Test.YtheeajnkiniopaaGreatDoorZK
import Derived.Test.YtheeajnkiniopaaGreatDoorIUnion
import Derived.Test.YtheeajnkiniopaaGreatDoorQTD
import Derived.Deep.RegionHeld3
import Derived.Test.YtheeajnkiniopaaGreatDoorX0A
import Derived.Test.YtheeajnkiniopaaGreatDoorX0B
set_option maxHeartbeats 8000000
set_option maxRecDepth 100000
open Go.Lib (hid)
open Nat (le_refl)
namespace Go.Proofs.YtheeajnkiniopaaGreatDoor.Wp
open Go.RowKit
def fillV (U:Nat→Value) (z:Value) (n k:Nat):Array Value:=((List.range n).map fun i=>if i<k then U i else z).toArray
theorem F7_ (U:Nat→Value) (z:Value) (n k:Nat):(fillV U z n k).size=n:=by simp [fillV]
theorem C5_ {U:Nat→Value} {z:Value} {n k i:Nat} (h:i<n):(fillV U z n k)[i]?=some (if i<k then U i else z):=by simp [fillV,h]
theorem Zd5 {U:Nat→Value} {z:Value} {n k:Nat}:(fillV U z n k).setIfInBounds k (U k)=fillV U z n (k+1):=by
 apply Array.ext
 ·rw [Array.size_setIfInBounds,F7_,F7_]
 ·intro i c d
  rw [Array.size_setIfInBounds,F7_] at c;have a:(fillV U z n (k+1))[i]?=some (if i<k+1 then U i else z):=C5_ c;have b:(fillV U z n k)[i]?=some (if i<k then U i else z):=C5_ c;rw [Array.getElem?_eq_getElem (by rw [F7_];exact c)] at a b;injection a with a;injection b with b;rw [a,Array.getElem_setIfInBounds]
  ·split
   ·rename_i e;subst e;rw [if_pos q40_]
   ·rename_i e
    rw [b];by_cases h:i<k
    ·rw [if_pos h,if_pos q40_]
    ·rw [if_neg h,if_neg q40_]
  ·rw [F7_];exact c
theorem Vk2 {w:World} {g n sz:Nat} {t:TypeId} {L:List Value} (h:w.ownsRow g t sz (.slice (some ⟨g,0,none⟩) n n) n L):Blk w g t L.toArray:=by
 rcases h.2 with ⟨e,_⟩ | ⟨m,k,c,j,hb,f,o,p,h3,d⟩
 ·cases e
 ·injection j with e1 _ e3
  injection e1 with e1;injection e1 with e1;subst e1 e3;unfold Blk;rw [f];have hc:c.toList=L:=by
   rw [← d,List.take_of_length_le];rw [Array.length_toList,h3];exact le_refl _
  rw [← hc]
theorem Zi2 {w:World} {g n sz:Nat} {t:TypeId} {z:Value} {cs:Array Value} (h:w.ownsRow g t sz (.slice (some ⟨g,0,none⟩) n n) n (madeCells cs (n * sz)).toList) (d:∀ i,i<n * sz→(madeCells cs (n * sz))[i]?=some z) (hs:(madeCells cs (n * sz)).size=n * sz) (U:Nat→Value):Blk w g t (fillV U z (n * sz) 0):=by
 have c:=Vk2 h;rw [Array.toArray_toList] at c;have e:madeCells cs (n * sz)=fillV U z (n * sz) 0:=by
  apply Array.ext
  ·rw [hs,F7_]
  ·intro i a b
   have x:=d i q40_;have y:(fillV U z (n * sz) 0)[i]?=_:=C5_ q40_;rw [if_neg q40_] at y;rw [Array.getElem?_eq_getElem a] at x;rw [Array.getElem?_eq_getElem b] at y;exact Option.some.inj (x.trans y.symm)
 rw [← e];exact c
theorem Xw3 {w:World} {g n:Nat} {t:TypeId} {z:Value} (e:z.cells=#[z]) (h:w.ownsRow g t 1 (.slice (some ⟨g,0,none⟩) n n) n (madeCells z.cells n).toList) (U:Nat→Value):Blk w g t (fillV U z n 0):=by
 have c:w.ownsRow g t 1 (.slice (some ⟨g,0,none⟩) n n) n (madeCells z.cells (n * 1)).toList:=by rw [Nat.mul_one];exact h
 have:=Zi2 (z:=z) c (fun i d=>by unfold madeCells;rw [e,Array.getElem?_map,Array.getElem?_range,if_pos d];simp [Nat.mod_one]) (by simp [madeCells]) U
 rwa [Nat.mul_one] at this
theorem Ye9:(Tryz.prog.info? 23).map (fun i=>(i.zero,i.size,i.bytes))=some (some (.slice none 0 0),1,24):=x40_
theorem Vu6:(Tryz.prog.info? 116).map (fun i=>(i.zero,i.size,i.bytes))=some (some (.agg #[.int .i64 0,.int .i64 0]),2,16):=x40_
theorem add_g (g k:Nat):(⟨g,0,none⟩:Addr).add k=⟨g,k,none⟩:=z50_
def E9_ (l:List (List Int)) (s:List Int):List (List Int):=s.map fun x=>l.getD x.toNat []
def Yw6 (w:World) (l:List (List Int)) (e:Ending) (w':World):Prop:=∃ u,e=.returned u∧Rows2 w' w'.heap.size u l∧Below w.heap.size w w'
theorem Zi3 (v sv:Value) (l:List (List Int)) (s:List Int) (w:World) (hv:Rows2 w w.heap.size v l) (hr:Row w w.heap.size sv s) (hs:∀ k,k<s.length→0≤s.getD k 0∧s.getD k 0<(l.length:Int)) (hl:l.length≤1000) (xc:s.length≤64) :
  Calls Tryz.prog 104 #[v,sv] w (Yw6 w (E9_ l s)):=by
 obtain ⟨Al,cl,rfl,m,R⟩:=hv;obtain ⟨As,cs,rfl,o,S⟩:=hr;have y:∀ j,∃ u,j<l.length→∃ d:Addr,Al=some d∧d.block<w.heap.size∧w.cell? (d.add j)=some u∧Row w w.heap.size u (l.getD j []):=fun j=>by
  by_cases h:j<l.length
  ·obtain ⟨d,u,h1,h2,h3,h4⟩:=R j h
   exact ⟨u,fun _=>⟨d,h1,h2,h3,h4⟩⟩
  ·exact ⟨.nilIface,fun h'=>absurd h' h⟩
 obtain ⟨V,y⟩:=Classical.axiomOfChoice y;have K:=hid y;have N:=hid hs;have x0:=hid S;have x9:(l.length:Int)≤1000:=q40_;have xb:(s.length:Int)≤64:=q40_;obtain ⟨U,hU⟩:∃ U:Nat→Value,U=fun k=>V (s.getD k 0).toNat:=⟨_,rfl⟩;have J:=hid hU;obtain ⟨i0,F,x6,x7,hz2⟩:=info_parts Ye9;clear R S m o y hs hU
 go_enter Tryz.func104,Tryz.ntmps104
 go_wp2_with (at_make;refine wpList_make_full w rfl _ _ 35 rfl w.heap.size 23 i0 (.slice none 0 0) 1 x40_ F x6 x7 .i64 .i64 _ _ s.length rfl rfl (by rfl) (by rfl) j48_ y41_ (le_refl _) ?_)
 intro w1 W Q;have c:=Xw3 (z:=.slice none 0 0) rfl W U;have P:Below w.heap.size w w1:=(Below.refl _ w).grown Q (le_refl _) (fun i F=>by cases F);have M:=hid c;have L:=hid P;clear W Q c P;go_wp2
 go_loopw [13] (fun I wr=>∃ k:Nat,I=.int .i64 k∧k≤s.length∧Blk wr w.heap.size 23 (fillV U (.slice none 0 0) s.length k)∧Below w.heap.size w wr) (fun I _=>s.length - (intOf I).toNat)
 case atStart=>exact ⟨0,rfl,Nat.zero_le _,M.out,L.out⟩
 case round =>
  obtain ⟨k,rfl,hk,c,g⟩:=hrel;have C:=hid c;have r:=hid g;clear M L;by_cases G:k<s.length
  ·have xa:(k:Int)<(s.length:Int):=by omega
   have H:=N.out k G;obtain ⟨X,E⟩:∃ X:Nat,s.getD k 0=(X:Int):=⟨(s.getD k 0).toNat,q40_⟩;obtain ⟨x1,x,hasb,o⟩:=x0.out k G;subst x;rw [E] at H o;have x2:X<l.length:=q40_;have x8:(X:Int)<(l.length:Int):=q40_;obtain ⟨al,x,halb,m,x5⟩:=K.out X x2;subst x;obtain ⟨Ay,cy,q,_⟩:=x5;obtain ⟨Y,T⟩:∃ Y,(l.getD X []).length=Y:=⟨_,rfl⟩;rw [T] at q;have gs:=(g.cell (p:=x1.add k) y46_).trans o;have O:=(g.cell (p:=al.add X) y47_).trans m;have D:U k=V X:=by rw [J.out];show V (s.getD k 0).toNat=V X;rw [E];rfl
   rw [← D] at O;have gf:=c.frozen k;obtain ⟨Z,gc⟩:∃ Z,wr.cell? ⟨w.heap.size,k,none⟩=some Z:=⟨_,by rw [c.cell];exact C5_ G⟩;rw [← D] at q;have Hy:=hid q;rw [q] at O;clear c g o m E H D q T;go_wp2
   go_roundw
   case rel=>exact ⟨k+1,x41_,q40_,by rw [← Zd5,Hy.out];exact C.out.set_ k _,r.out.setCell (by exact le_refl _) _⟩
   exact mz_
  ·have x3:k=s.length:=by omega
   subst x3;clear c g;go_wp2;go_ret;refine ⟨_,rfl,⟨some ⟨w.heap.size,0,none⟩,s.length,by simp [E9_],⟨by simp [E9_],by unfold maxLen;omega,fun e=>by cases e⟩,fun j hj=>?_⟩,r.out⟩;have B:j<s.length:=by simpa [E9_] using hj
   have H:=N.out j B;obtain ⟨al,x,halb,m,x4⟩:=K.out (s.getD j 0).toNat q40_;refine ⟨⟨w.heap.size,0,none⟩,U j,rfl,C.out.lt,?_,?_⟩
   ·rw [add_g,C.out.cell,C5_ B,if_pos B]
   ·rw [J.out,show (E9_ l s).getD j []=l.getD (s.getD j 0).toNat [] by simp [E9_,List.getD,B]]
    exact (x4.below r.out).mono r.out.size
def R3_ (l:List (List Int)) (s:List Int):List (Int × Int):=s.map fun x=>((l.getD x.toNat []).getD 0 0,(l.getD x.toNat []).getD 1 0)
def Yw7 (w:World) (l:List (Int × Int)) (e:Ending) (w':World):Prop:=∃ u,e=.returned u∧Edges w' w'.heap.size u l∧Below w.heap.size w w'
def edgU (E:List (Int × Int)) (j:Nat):Value:=if j % 2=0 then .int .i64 (E.getD (j / 2) (0,0)).1 else .int .i64 (E.getD (j / 2) (0,0)).2
theorem Vc3 (E:List (Int × Int)) (k:Nat):edgU E (k * 2)=.int .i64 (E.getD k (0,0)).1:=by
 unfold edgU;rw [if_pos q40_,Nat.mul_div_cancel _ q41_]
theorem Vc4 (E:List (Int × Int)) (k:Nat):edgU E (k * 2+1)=.int .i64 (E.getD k (0,0)).2:=by
 unfold edgU;rw [if_neg q40_,show (k * 2+1) / 2=k by omega]
theorem Xw4 {w:World} {g n:Nat} {t:TypeId} (h:w.ownsRow g t 2 (.slice (some ⟨g,0,none⟩) n n) n (madeCells (Value.agg #[.int .i64 0,.int .i64 0]).cells (n * 2)).toList) (U:Nat→Value):Blk w g t (fillV U (.int .i64 0) (n * 2) 0):=by
 refine Zi2 h (fun i d=>?_) (by simp [madeCells]) U;have e:(Value.agg #[.int .i64 0,.int .i64 0]).cells=#[.int .i64 0,.int .i64 0]:=rfl;rw [e];unfold madeCells;rw [Array.getElem?_map,Array.getElem?_range,if_pos d];have c:i % 2=0∨i % 2=1:=q40_;rcases c with c | c<;>simp [c]
theorem Vu7 (d:Addr) (c:Nat) (w:World):(Instr.arrayAt 116 (.slice (some d) 2 c)).run Tryz.prog w=.ok (.pointer (some d)) w:=x40_
theorem Xf0 (v sv:Value) (l:List (List Int)) (s:List Int) (w:World) (hv:Rows2 w w.heap.size v l) (hr:Row w w.heap.size sv s) (hs:∀ k,k<s.length→0≤s.getD k 0∧s.getD k 0<(l.length:Int)) (P:∀ i,i<l.length→(l.getD i []).length=2) (hl:l.length≤1000) (xj:s.length≤64) :
  Calls Tryz.prog 101 #[v,sv] w (Yw7 w (R3_ l s)):=by
 obtain ⟨Al,cl,rfl,m,Y⟩:=hv;obtain ⟨As,cs,rfl,o,Z⟩:=hr;have x3:=hid Y;have Hs:=hid hs;have H2:=hid P;have x4:=hid Z;have xg:(l.length:Int)≤1000:=q40_;have xi:(s.length:Int)≤64:=q40_;obtain ⟨E,H⟩:∃ E,E=R3_ l s:=⟨_,rfl⟩;have L:=hid H;rw [← H];obtain ⟨i0,J,x8,x9,hz2⟩:=info_parts Vu6;clear Y Z m o hs P H
 go_enter Tryz.func101,Tryz.ntmps101
 go_wp2_with (at_make;refine wpList_make_full w rfl _ _ 100 rfl w.heap.size 116 i0 (.agg #[.int .i64 0,.int .i64 0]) 2 x40_ J x8 x9 .i64 .i64 _ _ s.length rfl rfl (by rfl) (by rfl) j48_ y41_ (le_refl _) ?_)
 intro w1 x0 V;have d:=Xw4 x0 (edgU E);have U:Below w.heap.size w w1:=(Below.refl _ w).grown V (le_refl _) (fun i J=>by cases J);have N:=hid d;have M:=hid U;clear x0 V d U;go_wp2
 go_loopw [13] (fun K wr=>∃ k:Nat,K=.int .i64 k∧k≤s.length∧Blk wr w.heap.size 116 (fillV (edgU E) (.int .i64 0) (s.length * 2) (k * 2))∧Below w.heap.size w wr) (fun K _=>s.length - (intOf K).toNat)
 case atStart=>exact ⟨0,rfl,Nat.zero_le _,N.out,M.out⟩
 case round =>
  obtain ⟨k,rfl,hk,d,h⟩:=hrel;have r:=hid d;have O:=hid h;clear N M;by_cases D:k<s.length
  ·have xh:(k:Int)<(s.length:Int):=by omega
   have hx:=Hs.out k D;obtain ⟨X,y⟩:∃ X:Nat,s.getD k 0=(X:Int):=⟨(s.getD k 0).toNat,q40_⟩;obtain ⟨x5,g,hasb,o⟩:=x4.out k D;subst g;have x:E.getD k (0,0)=((l.getD X []).getD 0 0,(l.getD X []).getD 1 0):=by
    rw [L.out];have:(s.getD k 0)=s[k]:=by simp [List.getD,D]
    rw [this] at y;simp [R3_,List.getD,D,y]
   rw [y] at hx o;have S:X<l.length:=q40_;have xe:(X:Int)<(l.length:Int):=q40_;obtain ⟨al,u,g,halb,m,x7⟩:=x3.out X S;subst g;have Q:=H2.out X S;generalize l.getD X []=z at *
   obtain ⟨p,q,rfl⟩:∃ p q,z=[p,q]:=by
    match z,Q with
    | [p,q],_=>exact ⟨p,q,rfl⟩
   obtain ⟨Az,cz,rfl,_,I⟩:=x7;obtain ⟨c,g,T,B⟩:=I 0 z40_;subst g;obtain ⟨xa,g,_,C⟩:=I 1 z40_;obtain rfl:=Option.some.inj g;rw [add_zero] at B;rw [show c.add 1=(⟨c.block,c.off+1,none⟩:Addr) by simp [Addr.add]] at C;change w.cell? c=some (.int .i64 p) at B;change w.cell? ⟨c.block,c.off+1,none⟩=some (.int .i64 q) at C;rw [show ([p,q]:List Int).length=2 from rfl] at m;change E.getD k (0,0)=(p,q) at x;have gs:=(h.cell (p:=x5.add k) y46_).trans o;have gl:=(h.cell (p:=al.add X) y47_).trans m;have g0:=(h.cell (p:=c) T).trans B;have g1:=(h.cell (p:=⟨c.block,c.off+1,none⟩) T).trans C;have xc:=d.frozen (k * 2);have xd:=d.frozen (k * 2+1);obtain ⟨F,gc⟩:∃ F,wr.cell? ⟨w.heap.size,k * 2,none⟩=some F:=⟨_,by rw [d.cell];exact C5_ q40_⟩;obtain ⟨xk,xb⟩:∃ F,wr.cell? ⟨w.heap.size,k * 2+1,none⟩=some F:=⟨_,by rw [d.cell];exact C5_ q40_⟩;have ha:=fun W=>Vu7 c cz W;have x1:Hid (edgU E (k * 2)=.int .i64 p):=hid (by rw [Vc3,x]);have x2:Hid (edgU E (k * 2+1)=.int .i64 q):=hid (by rw [Vc4,x]);clear d h o m y hx B C x I Q;go_wp2
   go_roundw
   case rel =>
    refine ⟨k+1,x41_,q40_,?_,(O.out.setCell (by exact le_refl _) _).setCell (by exact le_refl _) _⟩;rw [show (k+1) * 2=k * 2+1+1 by omega,← Zd5,← Zd5,x1.out,x2.out];exact (r.out.set_ _ _).set_ _ _
   case measure=>simp [intOf];omega
  ·have x6:k=s.length:=by omega
   subst x6;clear d h;have R:E.length=s.length:=by rw [L.out];simp [R3_]
   have G:=hid R;clear R;go_wp2;go_ret;refine ⟨_,rfl,⟨some ⟨w.heap.size,0,none⟩,s.length,by rw [G.out];rfl,⟨by rw [G.out];exact le_refl _,by unfold maxLen;omega,fun e=>by cases e⟩,fun j hj=>?_⟩,O.out⟩;have xf:j<s.length:=by have:=G.out;omega
   refine ⟨⟨w.heap.size,0,none⟩,rfl,r.out.lt,?_,?_⟩
   ·rw [add_g,r.out.cell,C5_ q40_,if_pos q40_,Vc3]
   ·rw [add_g]
    show World.cell? _ ⟨w.heap.size,j * 2+1,none⟩=_;rw [r.out.cell,C5_ q40_,if_pos q40_,Vc4]
open Go.RowKit
theorem Xf1 (zs:List Int) (j:Nat) (x:Int):(ints zs).set j (.int .i64 x)=ints (zs.set j x):=by
 unfold ints;rw [List.map_set]
theorem Yy3 {A n:Nat} {cls most:Nat→Nat} {P:Nat→Bool} {x:Nat} (hc:cls x<A) (hx:x<n) (hp:P x=false):partR A n cls most (insP P x)=partR A n cls most P+if clsN n cls P (cls x)<most (cls x) then 1 else 0:=by
 refine Zn8 (b:=cls x) hc (fun c hne=>?_) ?_
 ·exact x27_
 ·show min _ _=min _ _+_
  rw [S0_ hx hp,if_pos rfl];split<;>omega
theorem Xf2 {n:Nat} {s:List Int} (h:InN n s) {k:Nat} (d:k<s.length):memP (s.take (k+1))=insP (memP (s.take k)) (s.getD k 0).toNat∧memP (s.take k) (s.getD k 0).toNat=false:=by
 have o:=h.2 _ (Q5_ 0 d);have e:s.getD k 0=s[k]:=by simp [List.getD,d]
 constructor
 ·funext i
  rw [Bool.eq_iff_iff,memP_iff,List.take_succ_eq_append_getElem d,List.mem_append,List.mem_singleton];unfold insP;rw [Bool.or_eq_true,beq_iff_eq,memP_iff,← e];constructor
  ·rintro (c | c)
   ·exact .inr c
   ·left;omega
  ·rintro (c | c)
   ·right;omega
   ·exact .inl c
 ·rw [← Bool.not_eq_true,memP_iff,show (((s.getD k 0).toNat:Nat):Int)=s.getD k 0 by omega]
  intro m;obtain ⟨j,f,g⟩:=List.mem_iff_getElem.1 m;rw [List.length_take] at f;rw [List.getElem_take,e] at g;have:=List.pairwise_iff_getElem.1 h.1.1 j k q40_ d q40_;omega
def roomL (A n:Nat) (cls most:Nat→Nat) (P:Nat→Bool):List Int:=(List.range A).map fun c=>((most c - clsN n cls P c:Nat):Int)
theorem O2_ (A n:Nat) (cls most:Nat→Nat) (P:Nat→Bool):(roomL A n cls most P).length=A:=by simp [roomL]
theorem Yy4 {A n:Nat} {cls most:Nat→Nat} {P:Nat→Bool} {c:Nat} (hc:c<A):(roomL A n cls most P).getD c 0=((most c - clsN n cls P c:Nat):Int):=by simp [roomL,List.getD,hc]
theorem Xw5 {A n:Nat} {cls most:Nat→Nat} {P:Nat→Bool} {x:Nat} (f:x<n) (d:P x=false) (h:¬ clsN n cls P (cls x)<most (cls x)):roomL A n cls most (insP P x)=roomL A n cls most P:=by
 unfold roomL;refine List.map_congr_left fun c _=>?_;rw [S0_ f d];by_cases e:cls x=c
 ·subst e;rw [if_pos rfl];omega
 ·rw [if_neg e,Nat.add_zero]
theorem Xf3 {A n:Nat} {cls most:Nat→Nat} {P:Nat→Bool} {x:Nat} (f:x<n) (d:P x=false) (h:clsN n cls P (cls x)<most (cls x)):(roomL A n cls most P).set (cls x) (((most (cls x) - clsN n cls P (cls x):Nat):Int) - 1)=roomL A n cls most (insP P x):=by
 apply List.ext_getElem
 ·simp [roomL]
 ·intro c g j
  rw [List.getElem_set];simp only [roomL,List.getElem_map,List.getElem_range];rw [S0_ f d];by_cases e:cls x=c
  ·subst e;rw [if_pos rfl,if_pos rfl];omega
  ·rw [if_neg e,if_neg e,Nat.add_zero]
theorem Yw8 (A n:Nat) (cls most:Nat→Nat):partR A n cls most noneP=0:=z19_
theorem Xf4 {A n:Nat} {cls most:Nat→Nat} (hc:∀ i,i<n→cls i<A) (P:Nat→Bool):partR A n cls most P≤n:=Nat.le_trans ((Yc9 hc).le_cnt P) (A3_ P n)
theorem Zo8 (vc y sv:Value) (cl d s:List Int) (n A:Nat) (w:World) (hc:Row w w.heap.size vc cl) (hm:Row w w.heap.size y d) (hr:Row w w.heap.size sv s) (Q:InN n s) (h1:cl.length=n) (K:d.length=A) (h3:∀ i,i<n→0≤cl.getD i 0∧cl.getD i 0<(A:Int)) (N:∀ i,i<A→0≤d.getD i 0∧d.getD i 0<65) (hn:n≤64) (hA:A≤64) :
  Calls Tryz.prog 102 #[vc,y,sv] w (Tells w (partR A n (fun i=>(cl.getD i 0).toNat) (fun c=>(d.getD c 0).toNat) (memP s):Nat)):=by
 obtain ⟨cls,S⟩:∃ cls:Nat→Nat,cls=fun i=>(cl.getD i 0).toNat:=⟨_,rfl⟩;obtain ⟨most,G⟩:∃ most:Nat→Nat,most=fun c=>(d.getD c 0).toNat:=⟨_,rfl⟩;rw [← S,← G];have x2:Hid (∀ i,i<n→cl.getD i 0=(cls i:Int)∧cls i<A):=hid fun i U=>by have:=h3 i U;rw [S];show cl.getD i 0=(((cl.getD i 0).toNat:Nat):Int)∧(cl.getD i 0).toNat<A;omega
 have x1:=hid (L.clone_any y d w hm q40_);have x6:d=roomL A n cls most noneP:=by
  apply List.ext_getElem
  ·rw [O2_,K]
  ·intro c a b
   have x8:c<A:=q40_;have:=N c x8;have e1:d.getD c 0=d[c]:=by simp [List.getD,a]
   have e2:(roomL A n cls most noneP).getD c 0=(roomL A n cls most noneP)[c]:=by simp [List.getD,b]
   rw [← e1,← e2,Yy4 x8,G];unfold clsN;rw [show (fun i=>noneP i && cls i==c)=noneP from by funext i;simp [noneP],F4_];show d.getD c 0=(((d.getD c 0).toNat - 0:Nat):Int);omega
 have xc:=hid x6;have HS:=hid Q;have xg:Hid (∀ c,c<A→most c≤64):=hid fun c hc=>by have:=N c hc;rw [G];show (d.getD c 0).toNat≤64;omega
 have xz:s.length≤n:=by rw [X3_ Q];exact A3_ _ _
 have xy:(s.length:Int)≤64:=q40_;have xa:∀ P,partR A n cls most P≤64:=fun P=>Nat.le_trans (Xf4 (fun i U=>(x2.out i U).2) P) hn;have xh:=hid xa;have xq:=hid K;obtain ⟨Ac,cc,rfl,_,x9⟩:=hc;obtain ⟨Am,cm,rfl,_⟩:=hm;obtain ⟨As,cs,rfl,_,xb⟩:=hr;have xf:=hid x9;have xi:=hid xb;have xw:(cl.length:Int)≤64:=q40_;have x3:=hid h1;clear x9 xb h3 N S G xa Q x6 h1 K
 go_enter Tryz.func102,Tryz.ntmps102
 go_wp2_with fail
 refine (x1.out).mono ?_;rintro e w1 ⟨u,rfl,h,x7⟩;rw [xc.out,O2_] at h;have j:=hid h;have x0:=hid x7;clear h x7 x1;go_wp2
 go_loopw [7,15] (fun y vk wr=>∃ k:Nat,vk=.int .i64 k∧k≤s.length∧y=.int .i64 (partR A n cls most (memP (s.take k)):Nat)∧wr.ownsRow w.heap.size 3 1 u A (ints (roomL A n cls most (memP (s.take k))))∧Below w.heap.size w wr) (fun _ vk _=>s.length - (intOf vk).toNat)
 case atStart=>exact ⟨0,rfl,Nat.zero_le _,by rw [List.take_zero,Zj4,Yw8];rfl,by rw [List.take_zero,Zj4];exact j.out,x0.out⟩
 case round =>
  obtain ⟨k,rfl,hk,rfl,h,v⟩:=hrel;have Hbr:=hid v;clear j x0;by_cases V:k<s.length
  ·have xx:(k:Int)<(s.length:Int):=by omega
   obtain ⟨F,m⟩:=Xf2 HS.out V;have hx:=HS.out.2 _ (Q5_ 0 V);obtain ⟨X,hX⟩:∃ X:Nat,s.getD k 0=(X:Int):=⟨(s.getD k 0).toNat,q40_⟩;obtain ⟨xj,xk,hasb,T⟩:=xi.out k V;subst xk;rw [hX] at hx T F m;rw [show ((X:Int)).toNat=X from rfl] at F m;have E:X<n:=q40_;obtain ⟨ac,xl,xn,R⟩:=xf.out X (by have:=x3.out;omega);subst xl;obtain ⟨hC,B⟩:=x2.out X E;rw [hC] at R;have xv:(X:Int)<(cl.length:Int):=by have:=x3.out;omega
   have xr:(cls X:Int)<(A:Int):=q40_;obtain ⟨g,cu,hu,xo⟩:=K6_ h q40_;subst hu;have gs:=(v.cell (p:=xj.add k) y46_).trans T;have gc:=(v.cell (p:=ac.add X) (by rw [Z2_];exact xn)).trans R;have gr:wr.cell? ⟨g,cls X,none⟩=some (.int .i64 ((most (cls X) - clsN n cls (memP (s.take k)) (cls X):Nat):Int)):=by
    rw [h.cellAt (cls X) q40_];have:(cls X)<(roomL A n cls most (memP (s.take k))).length:=by rw [O2_];exact B
    rw [show (ints (roomL A n cls most (memP (s.take k))))[cls X]?=some (.int .i64 ((roomL A n cls most (memP (s.take k))).getD (cls X) 0)) by simp [ints,List.getD,this],Yy4 B]
   have gf:=h.frozenAt (cls X);have Y:=Yy3 (cls:=cls) (most:=most) B E m;have Z:=Xf3 (A:=A) (cls:=cls) (most:=most) E m;have W:=Xw5 (A:=A) (cls:=cls) (most:=most) E m;have xt:=xg.out _ B;have xm:=xh.out (memP (s.take k));rw [← F] at Y Z W;have o:=hid Y;have J:=hid Z;have H:=hid W;have j:=hid h;generalize clsN n cls (memP (s.take k)) (cls X)=q at *
   generalize most (cls X)=M at *
   generalize cls X=C at *
   clear Y Z W F m h v T R hX hx hC;obtain ⟨r,x5⟩:∃ r,partR A n cls most (memP (s.take k))=r:=⟨_,rfl⟩;rw [x5] at o xm ⊢;have xu:(r:Int)≤64:=q40_;clear x5;by_cases x:q<M
   ·have O:(0:Int)<((M - q:Nat):Int):=by omega
    have xs:((M - q:Nat):Int)≤64:=q40_;have I:Hid (partR A n cls most (memP (s.take (k+1)))=r+1):=hid (by rw [o.out,if_pos x]);have z:=hid (J.out x);generalize ((M - q:Nat):Int)=D at *
    have hw:IntKind.i64.wrap (D - 1)=D - 1:=k40_;have x4:=hid (j.out.stored C (.int .i64 (D - 1)));rw [Xf1,z.out] at x4;have xe:=hid (Hbr.out.setCell (p:=⟨g,C,none⟩) xo (.int .i64 (D - 1)));clear j Hbr J H o z x;go_wp2
    go_roundw
    case rel=>exact ⟨k+1,x41_,q40_,by rw [I.out];go_num,x4.out.1,xe.out⟩
    exact mz_
   ·have O:(M - q:Nat)=0:=by omega
    have I:Hid (partR A n cls most (memP (s.take (k+1)))=r):=hid (by rw [o.out,if_neg x,Nat.add_zero]);have z:=hid (H.out x);rw [O] at gr;change wr.cell? ⟨g,C,none⟩=some (.int .i64 0) at gr;clear J H o O;go_wp2
    go_roundw
    case rel=>exact ⟨k+1,x41_,q40_,by rw [I.out],by rw [z.out];exact j.out,Hbr.out⟩
    exact mz_
  ·have xp:k=s.length:=by omega
   subst xp;have xd:Hid (s.take s.length=s):=hid (List.take_length);rw [xd.out];clear h v;exact q15_
def betB (f n x:Int):Bool:=decide (f≤x) && decide (x<f+n)
def betL (s:List Int) (f n:Int):List Int:=(s.filter (betB f n)).map fun x=>x - f
theorem Yy5 {s:List Int} {f n:Int} {k:Nat} (c:k<s.length):betL (s.take (k+1)) f n=betL (s.take k) f n ++ if betB f n (s.getD k 0)=true then [s.getD k 0 - f] else []:=by
 unfold betL;rw [List.take_succ_eq_append_getElem c,List.filter_append,List.map_append,show s[k]=s.getD k 0 by simp [List.getD,c]];congr 1;generalize s.getD k 0=x;by_cases h:betB f n x=true
 ·simp [h]
 ·simp [h]
theorem Zd6 (s:List Int) (f n:Int):(betL s f n).length≤s.length:=by
 unfold betL;rw [List.length_map];exact List.length_filter_le _ _
theorem Yf0 (e:Value) (s:List Int) (f n:Int) (w:World) (g:Row w w.heap.size e s) (hs:∀ k,k<s.length→0≤s.getD k 0∧s.getD k 0≤64) (m:0≤f∧f≤1000) (o:0≤n∧n≤1000) (r:s.length≤64) :
  Calls Tryz.prog 133 #[e,.int .i64 f,.int .i64 n] w (Gives w (betL s f n)):=by
 obtain ⟨j,cs,rfl,_,d⟩:=g;have Hsk:=hid d;have Hs:=hid hs;have q:(s.length:Int)≤64:=q40_;have u:IntKind.i64.wrap (f+n)=f+n:=k40_;have hown0:w.ownsRow w.heap.size 3 1 (.slice none 0 0) ([]:List Int).length (ints []):=World.ownsRow_nil _ _ _ _;clear d hs
 go_enter Tryz.func133,Tryz.ntmps133
 go_wp2
 go_loopw [7,12] (fun h c wr=>∃ k:Nat,c=.int .i64 k∧k≤s.length∧wr.ownsRow w.heap.size 3 1 h (betL (s.take k) f n).length (ints (betL (s.take k) f n))∧Below w.heap.size w wr) (fun _ c _=>s.length - (intOf c).toNat)
 case atStart=>exact ⟨0,rfl,Nat.zero_le _,hown0,Below.refl _ _⟩
 case round =>
  exact x1_
open Go
theorem Zi4 {m:Mat} {s:List Int} (h:chk m=0) (g:m.t=1) (hs:InN (nN m) s):R3_ m.l s=castE (edgP (nN m) (edgOf m) (memP s)):=by
 obtain ⟨_,k,d⟩:=O1_ h g;have p:=Y0_ h;have e:R3_ m.l s=(pickN (nN m) (memP s)).map fun i=>((m.l.getD i []).getD 0 0,(m.l.getD i []).getD 1 0):=Ym6 hs fun i=>((m.l.getD i []).getD 0 0,(m.l.getD i []).getD 1 0);rw [e];unfold castE edgP;rw [List.map_map];refine List.map_congr_left fun i f=>?_;have o:=(mem_pick.1 f).1;obtain ⟨j,c⟩:=d i q40_;have a:=c 0 q40_;have b:=c 1 q40_;show _=((((m.l.getD i []).getD 0 0).toNat:Int),(((m.l.getD i []).getD 1 0).toNat:Int));rw [Int.toNat_of_nonneg a.1,Int.toNat_of_nonneg b.1]
theorem Yy6 {m:Mat} {s:List Int} (h:chk m=0) (e:m.t=1):Lies m.a.toNat (edgP (nN m) (edgOf m) (memP s)):=by
 obtain ⟨_,f,h2⟩:=O1_ h e;have j:=Y0_ h;intro c hc;obtain ⟨i,d,rfl⟩:=List.mem_map.1 hc;have g:=(mem_pick.1 d).1;exact z11_
theorem S4_ (n:Nat) (P:Nat→Bool):(pickN n P).length≤n:=A3_ P n
theorem S5_ {n:Nat} {l:List (List Int)} {s:List Int} (hs:InN n s):E9_ l s=(pickN n (memP s)).map fun i=>l.getD i []:=Ym6 hs fun i=>l.getD i []
theorem mayK (r:Int) (a:List (List Int)):K.mayM r a=mayM r a:=rfl
theorem elimK (p r:Int) (a:List (List Int)):L.elimB p r a=elimB p r a:=rfl
theorem Zi5 {n:Nat} {l:List (List Int)} {P:Nat→Bool} (hl:l.length=n) {z:List Int} (d:z∈(pickN n P).map fun i=>l.getD i []):z∈l:=by
 obtain ⟨i,c,rfl⟩:=List.mem_map.1 d;exact Q5_ [] (by have:=(mem_pick.1 c).1;omega)
theorem Yw9 {r:Int} {n:Nat} {l:List (List Int)} {P:Nat→Bool} (h:mayM r l=true) (hl:l.length=n):mayM r ((pickN n P).map fun i=>l.getD i [])=true:=by
 unfold mayM at h ⊢;simp only [Bool.and_eq_true,decide_eq_true_iff,List.all_eq_true] at h ⊢;exact z24_
theorem Zd7 {p r:Int} {n:Nat} {l:List (List Int)} {P:Nat→Bool} (h:elimB p r l=true) (hl:l.length=n):elimB p r ((pickN n P).map fun i=>l.getD i [])=true:=by
 unfold elimB at h ⊢;simp only [Bool.and_eq_true,decide_eq_true_iff,Bool.not_eq_true',List.any_eq_false] at h ⊢;exact z24_
theorem Xw6 {n R:Nat} {l:List (List Int)} {P:Nat→Bool} {adj:List (List Int)} (z:adj=(pickN n P).map fun i=>l.getD i []) {k:Nat} (h:K.Big R adj k):covR n R (fun i r=>(r:Int)∈l.getD i []) P=k:=by
 have E:adj.length=(pickN n P).length:=by rw [z,List.length_map]
 have x:∀ j,j<adj.length→adj.getD j []=l.getD ((pickN n P).getD j 0) []∧(pickN n P).getD j 0∈pickN n P:=fun j d=>by
  rw [E] at d;refine ⟨?_,Q5_ 0 d⟩;rw [z];simp [List.getD,d]
 have L:∀ i j,i<adj.length→j<adj.length→(pickN n P).getD i 0=(pickN n P).getD j 0→i=j:=fun i j m d e=>by
  rw [E] at m d;have g:=List.pairwise_iff_getElem.1 (Zc3 n P);rw [show (pickN n P).getD i 0=(pickN n P)[i] by simp [List.getD,m],show (pickN n P).getD j 0=(pickN n P)[j] by simp [List.getD,d]] at e;rcases Nat.lt_trichotomy i j with c | c | c
  ·have:=g i j m d c;omega
  ·exact c
  ·have:=g j i d m c;omega
 obtain ⟨⟨U,hM,V⟩,A,B,I,M⟩:=h;refine Nat.le_antisymm ?_ ?_
 ·refine L5_ ⟨fun i=>(List.range adj.length).any fun j=>A j && (pickN n P).getD j 0==i,B,fun i r m g v=>?_,?_⟩
  ·obtain ⟨j,d,s⟩:=List.mem_iff_getElem.1 (mem_pick.2 ⟨m,g⟩)
   have D:j<adj.length:=q40_;have e:(pickN n P).getD j 0=i:=by rw [show (pickN n P).getD j 0=(pickN n P)[j] by simp [List.getD,d],s]
   rcases I j r (show (r:Int)∈adj.getD j [] by rw [(x j D).1,e];exact v) with c | c
   ·left
    rw [List.any_eq_true];exact ⟨j,List.mem_range.2 D,by rw [c,e];simp⟩
   ·exact .inr c
  ·have H:∀ i,∃ j,((List.range adj.length).any fun j=>A j && (pickN n P).getD j 0==i)=true→j<adj.length∧A j=true∧(pickN n P).getD j 0=i:=fun i=>by
    by_cases hb:((List.range adj.length).any fun j=>A j && (pickN n P).getD j 0==i)=true
    ·obtain ⟨j,d,s⟩:=List.any_eq_true.1 hb
     rw [Bool.and_eq_true,beq_iff_eq] at s;exact ⟨j,fun _=>⟨List.mem_range.1 d,s.1,s.2⟩⟩
    ·exact ⟨0,fun G=>absurd G hb⟩
   obtain ⟨f,u⟩:=Classical.axiomOfChoice H;have:=K.cntP_inj (n:=n) (R:=adj.length) (p:=fun i=>(List.range adj.length).any fun j=>A j && (pickN n P).getD j 0==i) (q:=A) f (fun i _ g=>⟨(u i g).1,(u i g).2.1⟩) (fun i j _ _ g N e=>by rw [← (u i g).2.2,e];exact (u j N).2.2);exact Nat.le_trans (Nat.add_le_add_right this _) M
 ·obtain ⟨o,w,hc,T⟩:=H2_ n R (fun i r=>(r:Int)∈l.getD i []) P
  have J:K.Cov adj (fun j=>o ((pickN n P).getD j 0)) w:=fun j r v=>by
   have d:=K.goes_lt v;obtain ⟨F,y⟩:=x j d;have C:(r:Int)∈adj.getD j []:=v;rw [F] at C;exact hc _ r (mem_pick.1 y).1 (mem_pick.1 y).2 C
  have O:=K.mat_le_cov hM J;have Q:=K.cntP_inj (n:=adj.length) (R:=n) (p:=fun j=>o ((pickN n P).getD j 0)) (q:=o) (fun j=>(pickN n P).getD j 0) (fun j d g=>⟨(mem_pick.1 (x j d).2).1,g⟩) (fun i j m d _ _ e=>L i j m d e);have h3:K.cntP n o=cnt o n:=rfl;have S:K.cntP R w=cnt w R:=rfl;omega
theorem Vc5 {p a:Int} {n:Nat} {l:List (List Int)} {P:Nat→Bool} {cols:List (List Int)} (g:cols=(pickN n P).map fun i=>l.getD i []) (h:L.elimB p a cols=true):L.rankI p a cols=(linR p a.toNat n (fun i=>L.vec (l.getD i [])) P:Nat):=by
 obtain ⟨c,R,f,_,_,hc⟩:=L.elimB_in h;unfold L.rankI;rw [if_pos h,f,Int.toNat_natCast];have e:=congrArg List.length (L.linesI_lines c hc).pl;rw [List.length_map] at e;have d:=L.rk_cols (R:=R) (L.fld_ok c) cols;rw [e,← d];unfold linR vecP;rw [g,List.map_map];rfl
theorem L9_ {n:Nat} {s:List Int} (h:InN n s) {k:Nat} (c:k<s.length):0≤s.getD k 0∧s.getD k 0<(n:Int):=h.2 _ (Q5_ 0 c)
theorem Y7_ {n:Nat} {s:List Int} (h:InN n s):s.length≤n:=by rw [X3_ h];exact A3_ _ _
def Zi6 (E:Nat→Addr) (k:Nat):Prop:=∀ (m:Mat) (v sv:Value) (s:List Int) (w:World),MatV w w.heap.size v m→Sml m→chk m=0→dp 4 m≤k→Row w w.heap.size sv s→InN (nN m) s→Env E w→Calls Tryz.prog 77 #[v,sv] w (Tells w (rkP k m (memP s):Nat))
theorem Vu8 (E:Nat→Addr) (k:Nat) (m:Mat) (v H:Value) (s:List Int) (w:World) (x:MatV w w.heap.size v m) (_hs:Sml m) (hc:chk m=0) (u:Row w w.heap.size H s) (c:InN (nN m) s) (G:Env E w) (ht:m.t=0):Calls Tryz.prog 77 #[v,H] w (Tells w (rkP (k+1) m (memP s):Nat)):=by
 rw [rkP_0 ht,← X3_ c];have I:=hid c;have S:=Y7_ c;have P:=(Y0_ hc).2;have R:(s.length:Int)≤64:=q40_;have Q:s.length≤1048576:=q40_;obtain ⟨U,T,rfl,r,q⟩:=x.open;obtain ⟨g,cl,rfl,_⟩:=id r;obtain ⟨d,o,rfl,_⟩:=id q;obtain ⟨K,cs,rfl,_⟩:=id u;have Hb0:=hid (Z1_ w m (.slice g m.l.length cl) (.slice d m.i.length o));have h:=hid (Z5_ w m (.slice g m.l.length cl) (.slice d m.i.length o));have C:=hid (u.up Hb0.out);have B:=hid (r.up Hb0.out);have z:=hid (q.up Hb0.out);have D:=hid (x.up Hb0.out);have y:=hid (G.up Hb0.out);unfold boxed at *
 have p:=h.out.cell;obtain ⟨j,hW0⟩:∃ j,j=w.alloc (.cells #[.int .i64 m.t,.int .i64 m.n,.int .i64 m.a,.int .i64 m.b,.slice g m.l.length cl,.slice d m.i.length o] 37):=⟨_,rfl⟩;have HW0:=hid hW0;have O:w.heap.size<j.heap.size:=x42_;rw [← hW0] at Hb0 C B z D y p h;have L:(m.t==0)=true:=z44_;clear ht;have M:=p 2;have ha:=chk_a hc;clear I C B z D y x u G p h r q c;by_cases N:m.a≤(s.length:Int)
 ·have e:min m.a.toNat s.length=m.a.toNat:=by omega
  have F:((m.a.toNat:Nat):Int)=m.a:=q40_;have J:min m.a (s.length:Int)=m.a:=q40_;rw [e,F];clear e F;exact y19_
 ·have e:min m.a.toNat s.length=s.length:=by omega
  have J:min m.a (s.length:Int)=(s.length:Int):=q40_;rw [e];clear e;exact y19_
theorem Vu9 (E:Nat→Addr) (k:Nat) (m:Mat) (v sv:Value) (s:List Int) (w:World) (N:MatV w w.heap.size v m) (_hs:Sml m) (hc:chk m=0) (L:Row w w.heap.size sv s) (r:InN (nN m) s) (Q:Env E w) (ht:m.t=1):Calls Tryz.prog 77 #[v,sv] w (Tells w (rkP (k+1) m (memP s):Nat)):=by
 rw [rkP_1 ht];have X:=O1_ hc ht;have ha:=chk_a hc;have U:=Zi4 hc ht r;have K:=Yy6 (s:=s) hc ht;have xb:=Y0_ hc;have P:∀ i,i<m.l.length→(m.l.getD i []).length=2:=fun i hi=>by have:=(X.2.2 i hi).1;omega
 have Z:∀ j,j<s.length→0≤s.getD j 0∧s.getD j 0<(m.l.length:Int):=fun j hj=>by have:=L9_ r hj;omega
 have xa:m.l.length≤1000:=q40_;have V:(edgP (nN m) (edgOf m) (memP s)).length≤4096:=by unfold edgP;rw [List.length_map];have:=S4_ (nN m) (memP s);omega
 obtain ⟨A,q⟩:∃ A:Nat,m.a=(A:Int):=⟨m.a.toNat,q40_⟩;rw [q,Int.toNat_natCast] at K;have x8:1≤A:=q40_;have x9:A≤64:=q40_;have x6:Hid ((N9_ A (nN m) (edgOf m) (memP s):Nat)=rankN A (edgP (nN m) (edgOf m) (memP s))):=hid (by unfold N9_ rankN;have:=Za7 A (edgP (nN m) (edgOf m) (memP s));omega);rw [q,Int.toNat_natCast];have HS:=hid r;have xf:=Y7_ r;have xc:=(Y0_ hc).2;have xe:(s.length:Int)≤64:=q40_;have xd:s.length≤1048576:=q40_;obtain ⟨lv,iv,rfl,J,I⟩:=N.open;obtain ⟨o,cl,rfl,_⟩:=id J;obtain ⟨D,H,rfl,_⟩:=id I;obtain ⟨As,cs,rfl,_⟩:=id L;have g:=hid (Z1_ w m (.slice o m.l.length cl) (.slice D m.i.length H));have F:=hid (Z5_ w m (.slice o m.l.length cl) (.slice D m.i.length H));have z:=hid (L.up g.out);have y:=hid (J.up g.out);have x:=hid (I.up g.out);have B:=hid (N.up g.out);have u:=hid (Q.up g.out);unfold boxed at *
 have C:=F.out.cell;obtain ⟨c,hW0⟩:∃ c,c=w.alloc (.cells #[.int .i64 m.t,.int .i64 m.n,.int .i64 m.a,.int .i64 m.b,.slice o m.l.length cl,.slice D m.i.length H] 37):=⟨_,rfl⟩;have x0:=hid hW0;have Y:w.heap.size<c.heap.size:=x42_;rw [← hW0] at g z y x B u C F;have d0:(m.t==0)=false:=j40_;have d1:(m.t==1)=true:=z44_;clear ht;have O:Hid (∀ W,Below c.drew.heap.size c.drew W→W.cell? ⟨w.heap.size,2,none⟩=some (.int .i64 m.a)∧W.cell? ⟨w.heap.size,4,none⟩=some (.slice o m.l.length cl)):=hid fun W R=>⟨(R.cell (p:=⟨w.heap.size,2,none⟩) Y).trans (C 2),(R.cell (p:=⟨w.heap.size,4,none⟩) Y).trans (C 4)⟩;have d:Hid (Below c.drew.heap.size c.drew c.drew):=hid (Below.refl _ _);have h:=(Below.refl c.heap.size c).drew;replace z:=hid (z.out.up h);replace y:=hid (y.out.up h);replace x:=hid (x.out.up h);replace B:=hid (B.out.up h);replace u:=hid (u.out.up h);clear C F h;have x2:=hid U;have x4:=hid K;have H2:=hid P;have x7:=hid Z;have x3:=hid V;rw [q] at O;have HA:=hid q;generalize edgP (nN m) (edgOf m) (memP s)=ns at *
 generalize N9_ A (nN m) (edgOf m) (memP s)=G at *
 clear N L Q J I r q X ha U K xb P Z V x B u
 go_enter Tryz.func77,Tryz.ntmps77
 go_wp2;rw [← x0.out];clear hW0;rw [HA.out]
 go_region_held3 (fun W=>W.cell? ⟨w.heap.size,2,none⟩=some (.int .i64 (A:Int))∧W.cell? ⟨w.heap.size,4,none⟩=some (.slice o m.l.length cl))
  (exact O.out _ d.out)
  (first
  | (go_at_call 101;refine (Xf0 _ _ m.l s _ y.out z.out x7.out H2.out xa q40_).mono ?_;rintro e w1 ⟨v1,rfl,M,S⟩;rw [x2.out] at M;replace d:=hid (Z0_ d.out (le_refl _) S);have x5:=hid M;clear M S)
  | (go_at_call 100;refine (Xc3 A _ ns _ x5.out x8 x9 x3.out x4.out).mono ?_;rintro e w2 ⟨rfl,T⟩;replace d:=hid (Z0_ d.out (le_refl _) T);clear T))
 all_goals
  have x1:=hid (Z0_ g.out.drew (le_refl _) d.out);clear d;go_simp;go_wp2;go_ret;exact ⟨by rw [← x6.out];rfl,x1.out⟩
theorem Vw0 (E:Nat→Addr) (k:Nat) (m:Mat) (v sv:Value) (s:List Int) (w:World) (N:MatV w w.heap.size v m) (_hs:Sml m) (hc:chk m=0) (M:Row w w.heap.size sv s) (D:InN (nN m) s) (V:Env E w) (ht:m.t=2):Calls Tryz.prog 77 #[v,sv] w (Tells w (rkP (k+1) m (memP s):Nat)):=by
 rw [rkP_2 ht];obtain ⟨p1,p2,p3,p4,p5⟩:=Zj6 hc ht;have ha:=chk_a hc;have xe:=Y0_ hc;obtain ⟨A,U⟩:∃ A:Nat,m.a=(A:Int):=⟨m.a.toNat,q40_⟩;rw [U,Int.toNat_natCast];have HS:=hid D;have xo:=Y7_ D;have xd:=(Y0_ hc).2;have xn:(s.length:Int)≤64:=q40_;have xm:s.length≤1048576:=q40_;obtain ⟨lv,iv,rfl,K,J⟩:=N.open;obtain ⟨y,cl,rfl,_⟩:=id K;obtain ⟨x,B,rfl,_⟩:=id J;obtain ⟨As,cs,rfl,_⟩:=id M;have h:=hid (Z1_ w m (.slice y m.l.length cl) (.slice x m.i.length B));have z:=hid (Z5_ w m (.slice y m.l.length cl) (.slice x m.i.length B));have u:=hid (M.up h.out);have Q:=hid (K.up h.out);have P:=hid (J.up h.out);have R:=hid (N.up h.out);have O:=hid (V.up h.out);unfold boxed at *
 have C:=z.out.cell;obtain ⟨g,hW0⟩:∃ g,g=w.alloc (.cells #[.int .i64 m.t,.int .i64 m.n,.int .i64 m.a,.int .i64 m.b,.slice y m.l.length cl,.slice x m.i.length B] 37):=⟨_,rfl⟩;have x5:=hid hW0;have xc:w.heap.size<g.heap.size:=x42_;rw [← hW0] at h u Q P R O C z;have d0:(m.t==0)=false:=j40_;have d1:(m.t==1)=false:=j40_;have d2:(m.t==2)=true:=z44_;clear ht;have o:Hid ((row m 0).length=nN m∧(row m 1).length=A∧(∀ i,i<nN m→0≤(row m 0).getD i 0∧(row m 0).getD i 0<(A:Int))∧(∀ i,i<A→0≤(row m 1).getD i 0∧(row m 1).getD i 0<65)∧A≤64):=hid ⟨q40_,q40_,fun i hi=>by have:=p4 i q40_;omega,fun i hi=>p5 i q40_,q40_⟩;have xb:m.l.length=2:=p1;obtain ⟨xf,xh,he,_,L⟩:=K;injection he with he1 he2 he3;subst he1 he3;obtain ⟨d,q,x9,X,H,x1⟩:=L 0 q40_;subst x9;obtain ⟨xg,r,xa,_,I,x2⟩:=L 1 q40_;obtain rfl:=Option.some.inj xa;rw [add_zero] at H;rw [show d.add 1=(⟨d.block,d.off+1,none⟩:Addr) by simp [Addr.add]] at I;have x3:Hid (Row g.drew g.drew.heap.size q (row m 0)):=hid ((x1.up h.out).up (Below.refl _ _).drew);have x4:Hid (Row g.drew g.drew.heap.size r (row m 1)):=hid ((x2.up h.out).up (Below.refl _ _).drew);have S:=(h.out.cell (p:=d) X).trans H;have T:=(h.out.cell (p:=⟨d.block,d.off+1,none⟩) X).trans I;have Y:d.block<g.heap.size:=q40_;have xi:(0:Int)<(m.l.length:Int):=q40_;have xj:(1:Int)<(m.l.length:Int):=q40_;have xk:0<m.l.length:=q40_;have xl:1<m.l.length:=q40_;have x0:=(Below.refl g.heap.size g).drew;replace u:=hid (u.out.up x0);have K1:Hid (∀ W,Below g.drew.heap.size g.drew W→W.cell? ⟨w.heap.size,4,none⟩=some (.slice (some d) m.l.length cl)∧W.cell? d=some q∧W.cell? ⟨d.block,d.off+1,none⟩=some r):=hid fun W F=>⟨(F.cell (p:=⟨w.heap.size,4,none⟩) xc).trans (C 4),(F.cell (p:=d) Y).trans S,(F.cell (p:=⟨d.block,d.off+1,none⟩) Y).trans T⟩;have j:Hid (Below g.drew.heap.size g.drew g.drew):=hid (Below.refl _ _);have x8:Hid (partR A (nN m) (clsOf m) (Yz6 m) (memP s)=partR A (nN m) (fun i=>((row m 0).getD i 0).toNat) (fun c=>((row m 1).getD c 0).toNat) (memP s)):=hid rfl;have x7:=hid (fun (W:World) (q0:Row W W.heap.size q (row m 0)) (q1:Row W W.heap.size r (row m 1)) (q2:Row W W.heap.size (.slice As s.length cs) s)=>Zo8 q r _ (row m 0) (row m 1) s (nN m) A W q0 q1 q2 HS.out o.out.1 o.out.2.1 o.out.2.2.1 o.out.2.2.2.1 xd o.out.2.2.2.2);clear N M V J D U p1 p2 p3 p4 p5 ha xe C z x0 S T H I x1 x2 L xb he2 Q P R O;generalize partR A (nN m) (clsOf m) (Yz6 m) (memP s)=G at *
 generalize partR A (nN m) (fun i=>((row m 0).getD i 0).toNat) (fun c=>((row m 1).getD c 0).toNat) (memP s)=G2 at *
 go_enter Tryz.func77,Tryz.ntmps77
 go_wp2;rw [← x5.out];clear hW0
 go_region_held3 (fun W=>W.cell? ⟨w.heap.size,4,none⟩=some (.slice (some d) m.l.length cl)∧W.cell? d=some q∧W.cell? ⟨d.block,d.off+1,none⟩=some r)
  (exact K1.out _ j.out)
  (first
  | (go_at_call 102;refine (x7.out _ x3.out x4.out u.out).mono ?_;rintro e w2 ⟨rfl,Z⟩;replace j:=hid (Z0_ j.out (le_refl _) Z);clear Z))
 all_goals
  have x6:=hid (Z0_ h.out.drew (le_refl _) j.out);clear j;go_simp;go_wp2;go_ret;exact ⟨by rw [x8.out];rfl,x6.out⟩
theorem Vw1 (E:Nat→Addr) (k:Nat) (m:Mat) (v sv:Value) (s:List Int) (w:World) (Q:MatV w w.heap.size v m) (_hs:Sml m) (hc:chk m=0) (O:Row w w.heap.size sv s) (u:InN (nN m) s) (T:Env E w) (ht:m.t=3):Calls Tryz.prog 77 #[v,sv] w (Tells w (rkP (k+1) m (memP s):Nat)):=by
 rw [rkP_3 ht];obtain ⟨p1,p2⟩:=Zc4 hc ht;have ha:=chk_a hc;have x8:=Y0_ hc;have x0:∀ j,j<s.length→0≤s.getD j 0∧s.getD j 0<(m.l.length:Int):=fun j hj=>by have:=L9_ u hj;omega
 have x7:m.l.length≤1000:=q40_;obtain ⟨adj,F⟩:∃ adj,adj=(pickN (nN m) (memP s)).map fun i=>m.l.getD i []:=⟨_,rfl⟩;have x4:Hid (E9_ m.l s=adj):=hid (by rw [F];exact S5_ u);have R:Hid (K.mayM m.a adj=true):=hid (by rw [mayK,F];exact Yw9 p2 q40_);have x3:Hid (∀ (H:List Int) (q:Nat),((K.mayM m.a adj=false∧H=[]∧q=0)∨(K.mayM m.a adj=true∧∃ hs os,K.Great m.a.toNat adj hs os adj.length∧H=(List.range adj.length).map hs∧q=K.msize adj hs))→covR (nN m) m.a.toNat (Ym8 m) (memP s)=q):=hid fun H q h=>by
  rcases h with ⟨S,_⟩ | ⟨_,xa,xe,hg,_,e2⟩
  ·rw [R.out] at S;cases S
  ·rw [e2];exact Xw6 F (K.great_big hg (K.onR_of_may R.out))
 have HS:=hid u;have xd:=Y7_ u;have x9:=(Y0_ hc).2;have xc:(s.length:Int)≤64:=q40_;have xb:s.length≤1048576:=q40_;obtain ⟨lv,iv,rfl,N,M⟩:=Q.open;obtain ⟨r,cl,rfl,_⟩:=id N;obtain ⟨I,L,rfl,_⟩:=id M;obtain ⟨As,cs,rfl,_⟩:=id O;have g:=hid (Z1_ w m (.slice r m.l.length cl) (.slice I m.i.length L));have J:=hid (Z5_ w m (.slice r m.l.length cl) (.slice I m.i.length L));have B:=hid (O.up g.out);have z:=hid (N.up g.out);have y:=hid (M.up g.out);have C:=hid (Q.up g.out);have x:=hid (T.up g.out);unfold boxed at *
 have D:=J.out.cell;obtain ⟨c,hW0⟩:∃ c,c=w.alloc (.cells #[.int .i64 m.t,.int .i64 m.n,.int .i64 m.a,.int .i64 m.b,.slice r m.l.length cl,.slice I m.i.length L] 37):=⟨_,rfl⟩;have x1:=hid hW0;have Z:w.heap.size<c.heap.size:=x42_;rw [← hW0] at g B z y C x D J;have d0:(m.t==0)=false:=j40_;have d1:(m.t==1)=false:=j40_;have d2:(m.t==2)=false:=j40_;have d3:(m.t==3)=true:=z44_;clear ht;have K1:Hid (∀ W,Below c.drew.heap.size c.drew W→W.cell? ⟨w.heap.size,2,none⟩=some (.int .i64 m.a)∧W.cell? ⟨w.heap.size,4,none⟩=some (.slice r m.l.length cl)):=hid fun W U=>⟨(U.cell (p:=⟨w.heap.size,2,none⟩) Z).trans (D 2),(U.cell (p:=⟨w.heap.size,4,none⟩) Z).trans (D 4)⟩;have d:Hid (Below c.drew.heap.size c.drew c.drew):=hid (Below.refl _ _);have o:=(Below.refl c.heap.size c).drew;replace B:=hid (B.out.up o);replace z:=hid (z.out.up o);replace y:=hid (y.out.up o);replace C:=hid (C.out.up o);replace x:=hid (x.out.up o);clear D J o;have x6:=hid x0;generalize covR (nN m) m.a.toNat (Ym8 m) (memP s)=G at *
 clear Q O T N M u p1 p2 ha x8 x0 y C x F
 go_enter Tryz.func77,Tryz.ntmps77
 go_wp2;rw [← x1.out];clear hW0
 go_region_held3 (fun W=>W.cell? ⟨w.heap.size,2,none⟩=some (.int .i64 m.a)∧W.cell? ⟨w.heap.size,4,none⟩=some (.slice r m.l.length cl))
  (exact K1.out _ d.out)
  (first
  | (go_at_call 104;refine (Zi3 _ _ m.l s _ z.out B.out x6.out x7 q40_).mono ?_;rintro e w1 ⟨v1,rfl,P,V⟩;rw [x4.out] at P;replace d:=hid (Z0_ d.out (le_refl _) V);have x5:=hid P;clear P V)
  | (go_at_call 103;refine (K.max_any m.a _ adj _ x5.out).mono ?_;rintro e w2 ⟨v2,H,q,rfl,_,X,Y⟩;replace d:=hid (Z0_ d.out (le_refl _) X);have Hq:Hid (G=q):=hid (x3.out _ q Y);clear Y X))
 all_goals
  have x2:=hid (Z0_ g.out.drew (le_refl _) d.out);clear d;go_simp;go_wp2;go_ret;exact ⟨by rw [Hq.out];rfl,x2.out⟩
theorem Vw2 (E:Nat→Addr) (k:Nat) (m:Mat) (v V:Value) (s:List Int) (w:World) (Q:MatV w w.heap.size v m) (_hs:Sml m) (hc:chk m=0) (O:Row w w.heap.size V s) (u:InN (nN m) s) (R:Env E w) (ht:m.t=4):Calls Tryz.prog 77 #[v,V] w (Tells w (rkP (k+1) m (memP s):Nat)):=by
 rw [rkP_4 ht];obtain ⟨p1,U⟩:=Ye2 hc ht;have x4:=Y0_ hc;have T:∀ j,j<s.length→0≤s.getD j 0∧s.getD j 0<(m.l.length:Int):=fun j hj=>by have:=L9_ u hj;omega
 have x3:m.l.length≤1000:=q40_;obtain ⟨adj,C⟩:∃ adj,adj=(pickN (nN m) (memP s)).map fun i=>m.l.getD i []:=⟨_,rfl⟩;have Z:Hid (E9_ m.l s=adj):=hid (by rw [C];exact S5_ u);have x1:Hid (L.rankI m.b m.a adj=(linR m.b m.a.toNat (nN m) (colOf m) (memP s):Nat)):=hid (Vc5 C (by rw [elimK,C];exact Zd7 U q40_));have HS:=hid u;have x8:=Y7_ u;have x5:=(Y0_ hc).2;have x7:(s.length:Int)≤64:=q40_;have x6:s.length≤1048576:=q40_;obtain ⟨lv,iv,rfl,M,K⟩:=Q.open;obtain ⟨q,cl,rfl,_⟩:=id M;obtain ⟨D,H,rfl,_⟩:=id K;obtain ⟨As,cs,rfl,_⟩:=id O;have g:=hid (Z1_ w m (.slice q m.l.length cl) (.slice D m.i.length H));have F:=hid (Z5_ w m (.slice q m.l.length cl) (.slice D m.i.length H));have z:=hid (O.up g.out);have y:=hid (M.up g.out);have x:=hid (K.up g.out);have B:=hid (Q.up g.out);have h:=hid (R.up g.out);unfold boxed at *
 have r:=F.out.cell;obtain ⟨c,hW0⟩:∃ c,c=w.alloc (.cells #[.int .i64 m.t,.int .i64 m.n,.int .i64 m.a,.int .i64 m.b,.slice q m.l.length cl,.slice D m.i.length H] 37):=⟨_,rfl⟩;have X:=hid hW0;have N:w.heap.size<c.heap.size:=x42_;rw [← hW0] at g z y x B h r F;have d0:(m.t==0)=false:=j40_;have d1:(m.t==1)=false:=j40_;have d2:(m.t==2)=false:=j40_;have d3:(m.t==3)=false:=j40_;have d4:(m.t==4)=true:=z44_;clear ht;have K1:Hid (∀ W,Below c.drew.heap.size c.drew W→W.cell? ⟨w.heap.size,2,none⟩=some (.int .i64 m.a)∧W.cell? ⟨w.heap.size,3,none⟩=some (.int .i64 m.b)∧W.cell? ⟨w.heap.size,4,none⟩=some (.slice q m.l.length cl)):=hid fun W I=>⟨(I.cell (p:=⟨w.heap.size,2,none⟩) N).trans (r 2),(I.cell (p:=⟨w.heap.size,3,none⟩) N).trans (r 3),(I.cell (p:=⟨w.heap.size,4,none⟩) N).trans (r 4)⟩;have d:Hid (Below c.drew.heap.size c.drew c.drew):=hid (Below.refl _ _);have o:=(Below.refl c.heap.size c).drew;replace z:=hid (z.out.up o);replace y:=hid (y.out.up o);replace x:=hid (x.out.up o);replace B:=hid (B.out.up o);replace h:=hid (h.out.up o);clear r F o;have x2:=hid T;generalize linR m.b m.a.toNat (nN m) (colOf m) (memP s)=G at *
 clear Q O R M K u p1 U x4 T x B C
 go_enter Tryz.func77,Tryz.ntmps77
 go_wp2;rw [← X.out];clear hW0
 go_region_held3 (fun W=>W.cell? ⟨w.heap.size,2,none⟩=some (.int .i64 m.a)∧W.cell? ⟨w.heap.size,3,none⟩=some (.int .i64 m.b)∧W.cell? ⟨w.heap.size,4,none⟩=some (.slice q m.l.length cl))
  (exact K1.out _ d.out)
  (first
  | (go_at_call 104;refine (Zi3 _ _ m.l s _ y.out z.out x2.out x3 q40_).mono ?_;rintro e w1 ⟨v1,rfl,P,J⟩;rw [Z.out] at P;replace d:=hid (Z0_ d.out (le_refl _) J);replace h:=hid (h.out.up J);have x0:=hid P;clear P J)
  | (go_at_call 105;refine (L.rank_any m.b m.a _ adj _ h.out.tab x0.out).mono ?_;rintro e w2 ⟨rfl,S⟩;rw [x1.out];replace d:=hid (Z0_ d.out (le_refl _) S);clear S))
 all_goals
  have Y:=hid (Z0_ g.out.drew (le_refl _) d.out);clear d;go_simp;go_wp2;go_ret;exact ⟨rfl,Y.out⟩
theorem Zj8 (E:Nat→Addr) (_k:Nat) (m:Mat) (v d:Value) (s:List Int) (w:World) (C:MatV w w.heap.size v m) (_hs:Sml m) (hc:chk m=0) (B:Row w w.heap.size d s) (x:InN (nN m) s) (H:Env E w) (K:5≤m.t∧m.t≤8) (G:Nat) (o:∀ (v d:Value) (W:World),MatV W W.heap.size v m→Row W W.heap.size d s→Env E W→Calls Tryz.prog 107 #[v,d] W (Tells W (G:Int))):Calls Tryz.prog 77 #[v,d] w (Tells w (G:Int)):=by
 have o:=hid o;have M:=hid x;have X:=Y7_ x;have T:=(Y0_ hc).2;have V:(s.length:Int)≤64:=q40_;have U:s.length≤1048576:=q40_;obtain ⟨Z,Y,rfl,z,y⟩:=C.open;obtain ⟨h,cl,rfl,_⟩:=id z;obtain ⟨g,u,rfl,_⟩:=id y;obtain ⟨L,cs,rfl,_⟩:=id B;have Hb0:=hid (Z1_ w m (.slice h m.l.length cl) (.slice g m.i.length u));have k:=hid (Z5_ w m (.slice h m.l.length cl) (.slice g m.i.length u));have p:=hid (B.up Hb0.out);have F:=hid (z.up Hb0.out);have D:=hid (y.up Hb0.out);have q:=hid (C.up Hb0.out);have j:=hid (H.up Hb0.out);unfold boxed at *
 have c:=k.out.cell;obtain ⟨r,hW0⟩:∃ r,r=w.alloc (.cells #[.int .i64 m.t,.int .i64 m.n,.int .i64 m.a,.int .i64 m.b,.slice h m.l.length cl,.slice g m.i.length u] 37):=⟨_,rfl⟩;have I:=hid hW0;have J:w.heap.size<r.heap.size:=x42_;rw [← hW0] at Hb0 p F D q j c k;have N:(m.t==0)=false:=j40_;have O:(m.t==1)=false:=j40_;have P:(m.t==2)=false:=j40_;have Q:(m.t==3)=false:=j40_;have R:(m.t==4)=false:=j40_;have S:(m.t==9)=false:=j40_;clear K;have g0:=c 0;have g1:=c 1;have g2:=c 2;have g3:=c 3;have g4:=c 4;have g5:=c 5;clear C B H z y x D F c k
 go_enter Tryz.func77,Tryz.ntmps77
 rw [hW0] at g0 g1 g2 g3 g4 g5 q p j Hb0;clear hW0 I J
 go_wp2_with fail
 refine (o.out _ _ _ q.out p.out j.out).mono ?_;rintro e w1 ⟨rfl,hb1⟩;exact y31_
theorem Vw3 (E:Nat→Addr) (_k:Nat) (m:Mat) (v d:Value) (s:List Int) (w:World) (D:MatV w w.heap.size v m) (_hs:Sml m) (hc:chk m=0) (C:Row w w.heap.size d s) (y:InN (nN m) s) (L:Env E w) (ht:m.t=9) (G:Nat) (q:∀ (F d:Value) (W:World),MatL W W.heap.size F m.i→Row W W.heap.size d s→Env E W→Calls Tryz.prog 106 #[F,d] W (Tells W (G:Int))):Calls Tryz.prog 77 #[v,d] w (Tells w (G:Int)):=by
 have q:=hid q;have Q:=hid y;have x1:=Y7_ y;have Y:=(Y0_ hc).2;have x0:(s.length:Int)≤64:=q40_;have Z:s.length≤1048576:=q40_;obtain ⟨lv,F,rfl,B,z⟩:=D.open;obtain ⟨j,cl,rfl,_⟩:=id B;obtain ⟨h,x,rfl,_⟩:=id z;obtain ⟨P,cs,rfl,_⟩:=id C;have c:=hid (Z1_ w m (.slice j m.l.length cl) (.slice h m.i.length x));have p:=hid (Z5_ w m (.slice j m.l.length cl) (.slice h m.i.length x));have r:=hid (C.up c.out);have H:=hid (B.up c.out);have o:=hid (z.up c.out);have I:=hid (D.up c.out);have k:=hid (L.up c.out);unfold boxed at *
 have g:=p.out.cell;obtain ⟨u,hW0⟩:∃ u,u=w.alloc (.cells #[.int .i64 m.t,.int .i64 m.n,.int .i64 m.a,.int .i64 m.b,.slice j m.l.length cl,.slice h m.i.length x] 37):=⟨_,rfl⟩;have N:=hid hW0;have O:w.heap.size<u.heap.size:=x42_;rw [← hW0] at c r H o I k g p;have R:(m.t==0)=false:=j40_;have S:(m.t==1)=false:=j40_;have T:(m.t==2)=false:=j40_;have U:(m.t==3)=false:=j40_;have V:(m.t==4)=false:=j40_;have X:(m.t==9)=true:=z44_;clear ht;have J:=g 0;have K:=g 5;clear D C L B z y I H g p
 go_enter Tryz.func77,Tryz.ntmps77
 rw [hW0] at J K o r k c;clear hW0 N O
 go_wp2_with fail
 refine (q.out _ _ _ o.out r.out k.out).mono ?_;rintro e w1 ⟨rfl,M⟩;have Hb1:=hid (Z0_ c.out (le_refl _) M);clear M J K;exact j1_
open Go.RowKit
theorem one_7 (E:Nat→Addr) (k:Nat) (m:Mat) (v o:Value) (s:List Int) (w:World) (F:MatV w w.heap.size v m) (hs:Sml m) (hc:chk m=0) (C:Row w w.heap.size o s) (z:InN (nN m) s) (S:Env E w) (ih:Zi6 E k) (hd:dp 4 m≤k+1) (ht:m.t=7):Calls Tryz.prog 107 #[v,o] w (Tells w (rkP (k+1) m (memP s):Nat)):=by
 rw [rkP_7 ht];have xc:nN m=nN (inn m):=by unfold nN;rw [H3_ hc (.inl ht)]
 have ha:=chk_a hc;have HS:=hid z;have xw:=Y7_ z;have xt:=(Y0_ hc).2;have xv:(s.length:Int)≤64:=q40_;have xu:s.length≤1048576:=q40_;obtain ⟨lv,iv,rfl,xa,U⟩:=F.open;obtain ⟨Al,cl,rfl,_⟩:=id xa;obtain ⟨H,ci,rfl,_⟩:=id U;obtain ⟨As,cs,rfl,_⟩:=id C;have d:=hid (Z1_ w m (.slice Al m.l.length cl) (.slice H m.i.length ci));have J:=hid (Z5_ w m (.slice Al m.l.length cl) (.slice H m.i.length ci));have x7:=hid (C.up d.out);have HL:=hid (xa.up d.out);have HI:=hid (U.up d.out);have Hv:=hid (F.up d.out);have HE:=hid (S.up d.out);unfold boxed at *
 have y:=J.out.cell;obtain ⟨O,hW0⟩:∃ O,O=w.alloc (.cells #[.int .i64 m.t,.int .i64 m.n,.int .i64 m.a,.int .i64 m.b,.slice Al m.l.length cl,.slice H m.i.length ci] 37):=⟨_,rfl⟩;have xe:=hid hW0;have xn:w.heap.size<O.heap.size:=x42_;rw [← hW0] at d x7 HL HI Hv HE y J;obtain ⟨q1,q2,q3⟩:=J4_ hc q40_;have xm:m.i.length=1:=x48_;obtain ⟨xo,xp,he,_,x9⟩:=U;injection he with he1 he2 he3;subst he1 he3;obtain ⟨ai,ui,xk,j,xb,r⟩:=x9 0 q40_;subst xk;rw [show (0:Nat) * 6=0 from rfl,add_zero] at xb;rw [show m.i.getD 0 default=inn m from rfl] at r;obtain ⟨lx,ix,Y,X,V⟩:=r.open;obtain ⟨x0,x1,x2,x3,x4,x5,c,Z,s1,s2,s3,s4,s5⟩:=xb;rw [Y] at c;injection c with c;injection c with c;injection c with h0 c;injection c with P c;injection c with Q c;injection c with h3 c;injection c with h4 c;injection c with h5 _;subst h0 P Q h3 h4 h5;have D:=sml_i hs (Y4_ m.i 0 default q40_);rw [show m.i.getD 0 default=inn m from rfl] at D;have xq:(0:Int)<(m.i.length:Int):=q40_;have xr:0<m.i.length:=q40_;obtain ⟨x,G⟩:∃ x,inn m=x:=⟨_,rfl⟩;simp only [G] at r X V Z s1 s2 s3 s4 s5 D q2 q3 Y ⊢;have Hx:=hid G;obtain ⟨Alx,clx,rfl,_⟩:=id X;obtain ⟨Aix,cix,rfl,_⟩:=id V;subst Y;have t0:=(d.out.cell (p:=ai) j).trans Z;have t1:=(d.out.cell (p:=⟨ai.block,ai.off+1,none⟩) j).trans s1;have t2:=(d.out.cell (p:=⟨ai.block,ai.off+2,none⟩) j).trans s2;have t3:=(d.out.cell (p:=⟨ai.block,ai.off+3,none⟩) j).trans s3;have t4:=(d.out.cell (p:=⟨ai.block,ai.off+4,none⟩) j).trans s4;have t5:=(d.out.cell (p:=⟨ai.block,ai.off+5,none⟩) j).trans s5;have xi:=hid (r.up d.out);obtain ⟨W1,hW1⟩:∃ W1,W1=(w.alloc (.cells #[.int .i64 m.t,.int .i64 m.n,.int .i64 m.a,.int .i64 m.b,.slice Al m.l.length cl,.slice (some ai) m.i.length ci] 37)).alloc (.cells #[.int .i64 x.t,.int .i64 x.n,.int .i64 x.a,.int .i64 x.b,.slice Alx x.l.length clx,.slice Aix x.i.length cix] 37):=⟨_,rfl⟩;have x6:=hid hW1;have q:Below w.heap.size w W1:=by rw [hW1];exact ((Below.refl _ w).alloc (le_refl _) _).alloc z40_ _
 have xf:=hid q;have L:=hid (C.up q);have I:=hid (S.up q);have N:=hid (r.up q);have xj:=hid (F.up q);have K:Hid (Blk W1 w.heap.size 37 #[.int .i64 m.t,.int .i64 m.n,.int .i64 m.a,.int .i64 m.b,.slice Al m.l.length cl,.slice (some ai) m.i.length ci]):=hid j42_;have g:Hid (Blk W1 (w.heap.size+1) 37 #[.int .i64 x.t,.int .i64 x.n,.int .i64 x.a,.int .i64 x.b,.slice Alx x.l.length clx,.slice Aix x.i.length cix]):=hid y40_;have xd:Hid (InN (nN x) s):=hid (by rw [← G,← xc];exact z);have xl:dp 4 x≤k:=q40_;have d7:(m.t==7)=true:=z44_;clear ht xc;obtain ⟨R,T⟩:∃ R:Nat,rkP k x (memP s)=R:=⟨_,rfl⟩;have xh:Hid (∀ (v o:Value) (W:World),MatV W W.heap.size v x→Row W W.heap.size o s→Env E W→Calls Tryz.prog 77 #[v,o] W (Tells W (R:Int))):=hid fun v o W P Q h3=>by rw [← T];exact ih x v o s W P D q2 xl Q xd.out h3
 rw [T];obtain ⟨M,hM⟩:∃ M:Int,M=((min m.a.toNat R:Nat):Int):=⟨_,rfl⟩;have xs:min m.a (R:Int)=M:=q40_;rw [← hM];have B:=(Below.refl W1.heap.size W1).drew;replace L:=hid (L.out.up B);replace I:=hid (I.out.up B);replace N:=hid (N.out.up B);clear B;have K1:Hid (∀ W,Below W1.drew.heap.size W1.drew W→W.cell? ⟨w.heap.size,2,none⟩=some (.int .i64 m.a)∧W.cell? ⟨w.heap.size+1,0,none⟩=some (.int .i64 x.t)∧W.cell? ⟨w.heap.size+1,1,none⟩=some (.int .i64 x.n)∧W.cell? ⟨w.heap.size+1,2,none⟩=some (.int .i64 x.a)∧W.cell? ⟨w.heap.size+1,3,none⟩=some (.int .i64 x.b)∧W.cell? ⟨w.heap.size+1,4,none⟩=some (.slice Alx x.l.length clx)∧W.cell? ⟨w.heap.size+1,5,none⟩=some (.slice Aix x.i.length cix)):=hid fun W h=>⟨(K.out.drew.below h K.out.lt).cell 2,(g.out.drew.below h g.out.lt).cell 0,(g.out.drew.below h g.out.lt).cell 1,(g.out.drew.below h g.out.lt).cell 2,(g.out.drew.below h g.out.lt).cell 3,(g.out.drew.below h g.out.lt).cell 4,(g.out.drew.below h g.out.lt).cell 5⟩;have u:Hid (Below W1.drew.heap.size W1.drew W1.drew):=hid (Below.refl _ _);clear Hv HL HE x7 J hs z xm x9 he2 X V Z s1 s2 s3 s4 s5 j G r q1 F C S T hM D ih ha HI xi
 go_enter Tryz.func107,Tryz.ntmps107
 rw [hW0] at d t0 t1 t2 t3 t4 t5 y;have g0:=y 0;have g5:=y 5;clear hW0 xe xn y hW1 q;go_wp2;rw [← x6.out];clear g0 g5 t0 t1 t2 t3 t4 t5 K g x6 d xj;generalize w.heap.size+1=B1 at *
 go_region_held3 (fun W=>W.cell? ⟨w.heap.size,2,none⟩=some (.int .i64 m.a)∧W.cell? ⟨B1,0,none⟩=some (.int .i64 x.t)∧W.cell? ⟨B1,1,none⟩=some (.int .i64 x.n)∧W.cell? ⟨B1,2,none⟩=some (.int .i64 x.a)∧W.cell? ⟨B1,3,none⟩=some (.int .i64 x.b)∧W.cell? ⟨B1,4,none⟩=some (.slice Alx x.l.length clx)∧W.cell? ⟨B1,5,none⟩=some (.slice Aix x.i.length cix))
  (exact K1.out _ u.out)
  (first
  | (go_at_call 77;refine (xh.out _ _ _ N.out L.out I.out).mono ?_;rintro e w2 ⟨rfl,x8⟩;replace u:=hid (Z0_ u.out (le_refl _) x8);clear x8))
 all_goals
  have xg:=hid (Z0_ xf.out.drew (le_refl _) u.out);clear u;go_simp;go_wp2;go_ret;exact ⟨rfl,xg.out⟩
theorem one_8 (E:Nat→Addr) (k:Nat) (m:Mat) (v o:Value) (s:List Int) (w:World) (hv:MatV w w.heap.size v m) (hs:Sml m) (hc:chk m=0) (hr:Row w w.heap.size o s) (F:InN (nN m) s) (hE:Env E w) (ih:Zi6 E k) (hd:dp 4 m≤k+1) (ht:m.t=8):Calls Tryz.prog 107 #[v,o] w (Tells w (rkP (k+1) m (memP s):Nat)):=by
 rw [rkP_8 ht];have K:nN m=nN (inn m):=by unfold nN;rw [H3_ hc (.inr ht)]
 have z:=chk_n hc;have HS:=hid F;have yd:=Y7_ F;have yb:=(Y0_ hc).2;have yc:(s.length:Int)≤64:=q40_;have y5:s.length≤1048576:=q40_;obtain ⟨lv,iv,rfl,xj,xc⟩:=hv.open;obtain ⟨Al,cl,rfl,_⟩:=id xj;obtain ⟨Ai,ci,rfl,_⟩:=id xc;obtain ⟨As,cs,rfl,_⟩:=id hr;have d:=hid (Z1_ w m (.slice Al m.l.length cl) (.slice Ai m.i.length ci));have x7:=hid (Z5_ w m (.slice Al m.l.length cl) (.slice Ai m.i.length ci));have xg:=hid (hr.up d.out);have HL:=hid (xj.up d.out);have HI:=hid (xc.up d.out);have Hv:=hid (hv.up d.out);have HE:=hid (hE.up d.out);unfold boxed at *
 have S:=x7.out.cell;obtain ⟨W0,hW0⟩:∃ W0,W0=w.alloc (.cells #[.int .i64 m.t,.int .i64 m.n,.int .i64 m.a,.int .i64 m.b,.slice Al m.l.length cl,.slice Ai m.i.length ci] 37):=⟨_,rfl⟩;have xq:=hid hW0;have y4:w.heap.size<W0.heap.size:=x42_;rw [← hW0] at d xg HL HI Hv HE S x7;obtain ⟨q1,q2,q3⟩:=J4_ hc q40_;have y2:m.i.length=1:=x48_;obtain ⟨y7,y8,he,_,xi⟩:=xc;injection he with he1 he2 he3;subst he1 he3;obtain ⟨ai,ui,xz,G,xp,Q⟩:=xi 0 q40_;subst xz;rw [show (0:Nat) * 6=0 from rfl,add_zero] at xp;rw [show m.i.getD 0 default=inn m from rfl] at Q;obtain ⟨lx,ix,xf,xe,xd⟩:=Q.open;obtain ⟨x0,x1,x2,x3,x4,x5,c,s0,s1,s2,s3,s4,s5⟩:=xp;rw [xf] at c;injection c with c;injection c with c;injection c with h0 c;injection c with T c;injection c with U c;injection c with h3 c;injection c with h4 c;injection c with h5 _;subst h0 T U h3 h4 h5;have Y:=sml_i hs (Y4_ m.i 0 default q40_);rw [show m.i.getD 0 default=inn m from rfl] at Y;have y9:(0:Int)<(m.i.length:Int):=q40_;have ya:0<m.i.length:=q40_;obtain ⟨x,B⟩:∃ x,inn m=x:=⟨_,rfl⟩;simp only [B] at Q xe xd s0 s1 s2 s3 s4 s5 Y q2 q3 xf ⊢;have Hx:=hid B;obtain ⟨Alx,clx,rfl,_⟩:=id xe;obtain ⟨Aix,cix,rfl,_⟩:=id xd;subst xf;have t0:=(d.out.cell (p:=ai) G).trans s0;have t1:=(d.out.cell (p:=⟨ai.block,ai.off+1,none⟩) G).trans s1;have t2:=(d.out.cell (p:=⟨ai.block,ai.off+2,none⟩) G).trans s2;have t3:=(d.out.cell (p:=⟨ai.block,ai.off+3,none⟩) G).trans s3;have t4:=(d.out.cell (p:=⟨ai.block,ai.off+4,none⟩) G).trans s4;have t5:=(d.out.cell (p:=⟨ai.block,ai.off+5,none⟩) G).trans s5;have xx:=hid (Q.up d.out);obtain ⟨W1,hW1⟩:∃ W1,W1=(w.alloc (.cells #[.int .i64 m.t,.int .i64 m.n,.int .i64 m.a,.int .i64 m.b,.slice Al m.l.length cl,.slice (some ai) m.i.length ci] 37)).alloc (.cells #[.int .i64 x.t,.int .i64 x.n,.int .i64 x.a,.int .i64 x.b,.slice Alx x.l.length clx,.slice Aix x.i.length cix] 37):=⟨_,rfl⟩;have x6:=hid hW1;have O:Below w.heap.size w W1:=by rw [hW1];exact ((Below.refl _ w).alloc (le_refl _) _).alloc z40_ _
 have xr:=hid O;have r:=hid (hr.up O);have h:=hid (hE.up O);have j:=hid (Q.up O);have xy:=hid (hv.up O);have Z:Hid (Blk W1 w.heap.size 37 #[.int .i64 m.t,.int .i64 m.n,.int .i64 m.a,.int .i64 m.b,.slice Al m.l.length cl,.slice (some ai) m.i.length ci]):=hid j42_;have x8:Hid (Blk W1 (w.heap.size+1) 37 #[.int .i64 x.t,.int .i64 x.n,.int .i64 x.a,.int .i64 x.b,.slice Alx x.l.length clx,.slice Aix x.i.length cix]):=hid y40_;have y0:InN (nN x) s:=by rw [← B,← K];exact F
 have xb:dp 4 x≤k:=q40_;have d7:(m.t==7)=false:=j40_;have d8:(m.t==8)=true:=z44_;clear ht;have xo:InN (nN x) (Z8_ (allL m.n) s):=by rw [← B,← K];exact Zj5 z.1 z.2 F.1
 have xh:InN (nN x) (allL m.n):=by rw [← B,← K];exact Zo3 z.1 z.2
 have J:=rk_ok k x q2 xb;have e1:rkP k x (memP (Z8_ (allL m.n) s))=rkP k x (notP (memP s)):=J.ext fun i X=>Yz5 z.1 z.2 F.1 (by rw [← B,← K] at X;exact X);have e2:rkP k x (memP (allL m.n))=rkP k x allP:=J.ext fun i X=>Ym7 z.1 z.2 (by rw [← B,← K] at X;exact X);have b1:=J.le_cnt (notP (memP s));have b2:=J.le_cnt allP;have b3:=A3_ (notP (memP s)) (nN x);have b4:=A3_ allP (nN x);have b5:=J.submod (notP (memP s)) (memP s);have b6:=J.le_cnt (memP s);rw [show orP (notP (memP s)) (memP s)=allP from by funext i;simp only [orP,notP,allP];cases memP s i<;>rfl] at b5;have xk:=X3_ F;have xl:nN m=nN x:=by rw [← B];exact K
 rw [← xl] at b6;obtain ⟨u,x9⟩:∃ u:Nat,rkP k x (notP (memP s))=u:=⟨_,rfl⟩;obtain ⟨C,xa⟩:∃ C:Nat,rkP k x allP=C:=⟨_,rfl⟩;rw [x9,xa,← xk];rw [x9] at e1 b1 b5;rw [xa] at e2 b2 b5;have xv:Hid (∀ (v o:Value) (W:World),MatV W W.heap.size v x→Row W W.heap.size o (Z8_ (allL m.n) s)→Env E W→Calls Tryz.prog 77 #[v,o] W (Tells W (u:Int))):=hid fun v o W T U h3=>by rw [← e1];exact ih x v o _ W T Y q2 xb U xo h3
 have xw:Hid (∀ (v o:Value) (W:World),MatV W W.heap.size v x→Row W W.heap.size o (allL m.n)→Env E W→Calls Tryz.prog 77 #[v,o] W (Tells W (C:Int))):=hid fun v o W T U h3=>by rw [← e2];exact ih x v o _ W T Y q2 xb U xh h3
 have y3:C≤s.length+u:=q40_;have ye:IntKind.i64.wrap ((s.length:Int)+(u:Int))=(s.length:Int)+(u:Int):=k40_;have yf:IntKind.i64.wrap ((s.length:Int)+(u:Int) - (C:Int))=(s.length:Int)+(u:Int) - (C:Int):=k40_;obtain ⟨M,hM⟩:∃ M:Int,M=((s.length+u - C:Nat):Int):=⟨_,rfl⟩;have HM:Hid ((s.length:Int)+(u:Int) - (C:Int)=M):=hid q40_;rw [← hM];have y1:=G7_ m.n;have gn:=Z.out.cell 1;clear e1 e2 b1 b2 b3 b4 b5 b6 xk xl x9 xa hM J xo xh y0 K;clear Hv HL HE xg x7 hs F y2 xi he2 xe xd s0 s1 s2 s3 s4 s5 G B Q q1 hv hr hE Y ih HI xx y3 z
 go_enter Tryz.func107,Tryz.ntmps107
 rw [hW0] at d t0 t1 t2 t3 t4 t5 S;have g0:=S 0;have g5:=S 5;clear hW0 xq y4 S hW1 O;rw [x6.out] at gn
 go_wp2_with fail
 refine (E8_ m.n _).mono ?_;rintro e L ⟨va,rfl,xn,D⟩;rw [← x6.out] at D;have xs:=hid (Z0_ xr.out (le_refl _) D);have xu:=hid (Z.out.below D Z.out.lt);have g:=hid (x8.out.below D x8.out.lt);replace r:=hid (r.out.up D);replace h:=hid (h.out.up D);replace j:=hid (j.out.up D);have q:=hid xn;clear D xn gn g0 g5 t0 t1 t2 t3 t4 t5 Z x8;obtain ⟨Aa,ca,y6,_⟩:=id q.out;subst y6;go_wp2;have V:=(Below.refl L.heap.size L).drew;replace r:=hid (r.out.up V);replace h:=hid (h.out.up V);replace j:=hid (j.out.up V);replace q:=hid (q.out.up V);clear V;have K1:Hid (∀ W,Below L.drew.heap.size L.drew W→W.cell? ⟨w.heap.size+1,0,none⟩=some (.int .i64 x.t)∧W.cell? ⟨w.heap.size+1,1,none⟩=some (.int .i64 x.n)∧W.cell? ⟨w.heap.size+1,2,none⟩=some (.int .i64 x.a)∧W.cell? ⟨w.heap.size+1,3,none⟩=some (.int .i64 x.b)∧W.cell? ⟨w.heap.size+1,4,none⟩=some (.slice Alx x.l.length clx)∧W.cell? ⟨w.heap.size+1,5,none⟩=some (.slice Aix x.i.length cix)):=hid fun W N=>⟨(g.out.drew.below N g.out.lt).cell 0,(g.out.drew.below N g.out.lt).cell 1,(g.out.drew.below N g.out.lt).cell 2,(g.out.drew.below N g.out.lt).cell 3,(g.out.drew.below N g.out.lt).cell 4,(g.out.drew.below N g.out.lt).cell 5⟩;have y:Hid (Below L.drew.heap.size L.drew L.drew):=hid (Below.refl _ _);clear x6 xu g d xy;generalize w.heap.size+1=B1 at *
 go_region_held3 (fun W=>W.cell? ⟨B1,0,none⟩=some (.int .i64 x.t)∧W.cell? ⟨B1,1,none⟩=some (.int .i64 x.n)∧W.cell? ⟨B1,2,none⟩=some (.int .i64 x.a)∧W.cell? ⟨B1,3,none⟩=some (.int .i64 x.b)∧W.cell? ⟨B1,4,none⟩=some (.slice Alx x.l.length clx)∧W.cell? ⟨B1,5,none⟩=some (.slice Aix x.i.length cix))
  (exact K1.out _ y.out)
  (first
  | (go_at_call 64;refine (N3_ _ _ (allL m.n) s _ q.out r.out y1 y5).mono ?_;rintro e w3 ⟨v3,rfl,xm,P⟩;replace y:=hid (Z0_ y.out (le_refl _) P);(try replace r:=hid (r.out.up P));(try replace h:=hid (h.out.up P));(try replace j:=hid (j.out.up P));(try replace q:=hid (q.out.up P));have R:=hid xm;clear xm P)
  | (go_at_call_of 77 (Value.slice Aa (allL m.n).length ca);refine (xw.out _ _ _ j.out q.out h.out).mono ?_;rintro e w5 ⟨rfl,I⟩;replace y:=hid (Z0_ y.out (le_refl _) I);(try replace r:=hid (r.out.up I));(try replace h:=hid (h.out.up I));(try replace j:=hid (j.out.up I));(try replace q:=hid (q.out.up I));(try replace R:=hid (R.out.up I));clear I)
  | (go_at_call_of 77 v3;refine (xv.out _ _ _ j.out R.out h.out).mono ?_;rintro e w4 ⟨rfl,H⟩;replace y:=hid (Z0_ y.out (le_refl _) H);(try replace r:=hid (r.out.up H));(try replace h:=hid (h.out.up H));(try replace j:=hid (j.out.up H));(try replace q:=hid (q.out.up H));(try replace R:=hid (R.out.up H));clear H))
 all_goals
  have xt:=hid (Z0_ xs.out.drew (le_refl _) y.out);clear y;go_simp;go_wp2;go_ret;exact ⟨by rw [← HM.out];rfl,xt.out⟩
theorem one_5 (E:Nat→Addr) (k:Nat) (m:Mat) (v g:Value) (s:List Int) (w:World) (H:MatV w w.heap.size v m) (hs:Sml m) (hc:chk m=0) (D:Row w w.heap.size g s) (o:InN (nN m) s) (P:Env E w) (ih:Zi6 E k) (hd:dp 4 m≤k+1) (G:m.t=5):Calls Tryz.prog 107 #[v,g] w (Tells w (rkP (k+1) m (memP s):Nat)):=by
 rw [rkP_5 G];have X:=chk_n hc;have xf:subB s (allL m.n)=true:=(S2_ X.1 X.2).2 o;have S:imgB m s=true:=by unfold imgB;rw [xf,decide_eq_true hc,decide_eq_true (show m.t=5∨m.t=6 by omega)];rfl
 have xa:imgL m s=imgM m s:=by unfold imgL;rw [S,if_pos rfl]
 have T:=Zc6 hc (.inl G) o;have xc:=U7_ hc (.inl G) o;have xz:=Zy2 m s;have HS:=hid o;have y2:=Y7_ o;have y0:=(Y0_ hc).2;have y1:(s.length:Int)≤64:=q40_;have xu:s.length≤1048576:=q40_;obtain ⟨lv,iv,rfl,xb,Q⟩:=H.open;obtain ⟨Al,cl,rfl,_⟩:=id xb;obtain ⟨J,ci,rfl,_⟩:=id Q;obtain ⟨As,cs,rfl,_⟩:=id D;have d:=hid (Z1_ w m (.slice Al m.l.length cl) (.slice J m.i.length ci));have K:=hid (Z5_ w m (.slice Al m.l.length cl) (.slice J m.i.length ci));have x7:=hid (D.up d.out);have HL:=hid (xb.up d.out);have HI:=hid (Q.up d.out);have Hv:=hid (H.up d.out);have HE:=hid (P.up d.out);unfold boxed at *
 have y:=K.out.cell;obtain ⟨O,hW0⟩:∃ O,O=w.alloc (.cells #[.int .i64 m.t,.int .i64 m.n,.int .i64 m.a,.int .i64 m.b,.slice Al m.l.length cl,.slice J m.i.length ci] 37):=⟨_,rfl⟩;have xg:=hid hW0;have xt:w.heap.size<O.heap.size:=x42_;rw [← hW0] at d x7 HL HI Hv HE y K;have xl:Hid (∀ (v g:Value) (W:World),MatV W W.heap.size v m→Row W W.heap.size g s→Env E W→Calls Tryz.prog 134 #[v,g] W (A0_ W true (imgM m s))):=hid fun v g W z B h3=>by rw [← xa,← S];exact Yq1 E m v g s W z hs h3 B xu
 obtain ⟨q1,q2,q3⟩:=J4_ hc q40_;have xs:m.i.length=1:=x48_;obtain ⟨xv,xw,he,_,x9⟩:=Q;injection he with he1 he2 he3;subst he1 he3;obtain ⟨ai,ui,xq,h,xe,u⟩:=x9 0 q40_;subst xq;rw [show (0:Nat) * 6=0 from rfl,add_zero] at xe;rw [show m.i.getD 0 default=inn m from rfl] at u;obtain ⟨lx,ix,Y,V,U⟩:=u.open;obtain ⟨x0,x1,x2,x3,x4,x5,c,Z,s1,s2,s3,s4,s5⟩:=xe;rw [Y] at c;injection c with c;injection c with c;injection c with h0 c;injection c with z c;injection c with B c;injection c with h3 c;injection c with h4 c;injection c with h5 _;subst h0 z B h3 h4 h5;have F:=sml_i hs (Y4_ m.i 0 default q40_);rw [show m.i.getD 0 default=inn m from rfl] at F;have xx:(0:Int)<(m.i.length:Int):=q40_;have xy:0<m.i.length:=q40_;obtain ⟨x,I⟩:∃ x,inn m=x:=⟨_,rfl⟩;simp only [I] at u V U Z s1 s2 s3 s4 s5 F q2 q3 Y ⊢;have Hx:=hid I;obtain ⟨Alx,clx,rfl,_⟩:=id V;obtain ⟨Aix,cix,rfl,_⟩:=id U;subst Y;have t0:=(d.out.cell (p:=ai) h).trans Z;have t1:=(d.out.cell (p:=⟨ai.block,ai.off+1,none⟩) h).trans s1;have t2:=(d.out.cell (p:=⟨ai.block,ai.off+2,none⟩) h).trans s2;have t3:=(d.out.cell (p:=⟨ai.block,ai.off+3,none⟩) h).trans s3;have t4:=(d.out.cell (p:=⟨ai.block,ai.off+4,none⟩) h).trans s4;have t5:=(d.out.cell (p:=⟨ai.block,ai.off+5,none⟩) h).trans s5;have xm:=hid (u.up d.out);obtain ⟨W1,hW1⟩:∃ W1,W1=(w.alloc (.cells #[.int .i64 m.t,.int .i64 m.n,.int .i64 m.a,.int .i64 m.b,.slice Al m.l.length cl,.slice (some ai) m.i.length ci] 37)).alloc (.cells #[.int .i64 x.t,.int .i64 x.n,.int .i64 x.a,.int .i64 x.b,.slice Alx x.l.length clx,.slice Aix x.i.length cix] 37):=⟨_,rfl⟩;have x6:=hid hW1;have q:Below w.heap.size w W1:=by rw [hW1];exact ((Below.refl _ w).alloc (le_refl _) _).alloc z40_ _
 have xh:=hid q;have xo:=hid (D.up q);have C:=hid (P.up q);have N:=hid (u.up q);have xp:=hid (H.up q);have L:Hid (Blk W1 w.heap.size 37 #[.int .i64 m.t,.int .i64 m.n,.int .i64 m.a,.int .i64 m.b,.slice Al m.l.length cl,.slice (some ai) m.i.length ci]):=hid j42_;have M:Hid (Blk W1 (w.heap.size+1) 37 #[.int .i64 x.t,.int .i64 x.n,.int .i64 x.a,.int .i64 x.b,.slice Alx x.l.length clx,.slice Aix x.i.length cix]):=hid y40_;have xr:dp 4 x≤k:=q40_;rw [I] at T;have d7:(m.t==7)=false:=j40_;have d8:(m.t==8)=false:=j40_;have d5:(m.t==5)=true:=j40_;rw [← xc];clear G;obtain ⟨R,hR⟩:∃ R:Nat,rkP k x (memP (imgM m s))=R:=⟨_,rfl⟩;have xk:Hid (∀ (v g:Value) (W:World),MatV W W.heap.size v x→Row W W.heap.size g (imgM m s)→Env E W→Calls Tryz.prog 77 #[v,g] W (Tells W (R:Int))):=hid fun v g W z B h3=>by rw [← hR];exact ih x v g _ W z F q2 xr B T h3
 rw [hR];clear Hv HL HE x7 K hs o xs x9 he2 V U Z s1 s2 s3 s4 s5 h I u q1 H D P F ih HI xm xf S xa T xc X
 go_enter Tryz.func107,Tryz.ntmps107
 rw [hW0] at d t0 t1 t2 t3 t4 t5 y;have g0:=y 0;have g5:=y 5;clear hW0 xg xt y hW1 q
 go_wp2_with fail
 rw [← x6.out];refine (xl.out _ _ _ xp.out xo.out C.out).mono ?_;rintro e w2 ⟨v2,rfl,xd,r,_⟩;have xi:=hid (Z0_ xh.out (le_refl _) r);have xj:=hid (L.out.below r L.out.lt);have j:=hid (M.out.below r M.out.lt);replace C:=hid (C.out.up r);replace N:=hid (N.out.up r);have xn:=hid xd;have c0:=j.out.cell 0;have c1:=j.out.cell 1;have c2:=j.out.cell 2;have c3:=j.out.cell 3;have c4:=j.out.cell 4;have c5:=j.out.cell 5;have m0:=xj.out.cell 0;clear r xd g0 g5 t0 t1 t2 t3 t4 t5 L M x6 d
 go_wp2_with fail
 refine (xk.out _ _ _ N.out xn.out C.out).mono ?_;rintro e w3 ⟨rfl,x8⟩;have Hb3:=hid (Z0_ xi.out (le_refl _) x8);clear x8 c0 c1 c2 c3 c4 c5 m0;exact q8_
theorem one_6 (E:Nat→Addr) (k:Nat) (m:Mat) (v c:Value) (s:List Int) (w:World) (hv:MatV w w.heap.size v m) (hs:Sml m) (hc:chk m=0) (hr:Row w w.heap.size c s) (K:InN (nN m) s) (hE:Env E w) (ih:Zi6 E k) (hd:dp 4 m≤k+1) (R:m.t=6):Calls Tryz.prog 107 #[v,c] w (Tells w (rkP (k+1) m (memP s):Nat)):=by
 rw [rkP_6 R];have xl:=chk_n hc;have xz:subB s (allL m.n)=true:=(S2_ xl.1 xl.2).2 K;have xh:imgB m s=true:=by unfold imgB;rw [xz,decide_eq_true hc,decide_eq_true (show m.t=5∨m.t=6 by omega)];rfl
 have xs:imgL m s=imgM m s:=by unfold imgL;rw [xh,if_pos rfl]
 have x7:=Zc6 hc (.inr R) K;have xu:=U7_ hc (.inr R) K;have ys:=Zy2 m s;have Q:=Zc5 hc (.inr R);have HS:=hid K;have yx:=Y7_ K;have yv:=(Y0_ hc).2;have yw:(s.length:Int)≤64:=q40_;have yk:s.length≤1048576:=q40_;obtain ⟨lv,iv,rfl,xj,xg⟩:=hv.open;obtain ⟨Al,cl,rfl,_⟩:=id xj;obtain ⟨Ai,ci,rfl,_⟩:=id xg;obtain ⟨As,cs,rfl,_⟩:=id hr;have g:=hid (Z1_ w m (.slice Al m.l.length cl) (.slice Ai m.i.length ci));have x9:=hid (Z5_ w m (.slice Al m.l.length cl) (.slice Ai m.i.length ci));have xp:=hid (hr.up g.out);have HL:=hid (xj.up g.out);have HI:=hid (xg.up g.out);have Hv:=hid (hv.up g.out);have HE:=hid (hE.up g.out);unfold boxed at *
 have T:=x9.out.cell;obtain ⟨W0,hW0⟩:∃ W0,W0=w.alloc (.cells #[.int .i64 m.t,.int .i64 m.n,.int .i64 m.a,.int .i64 m.b,.slice Al m.l.length cl,.slice Ai m.i.length ci] 37):=⟨_,rfl⟩;have y1:=hid hW0;have yh:w.heap.size<W0.heap.size:=x42_;rw [← hW0] at g xp HL HI Hv HE T x9;have y8:Hid (∀ (v c:Value) (W:World),MatV W W.heap.size v m→Row W W.heap.size c s→Env E W→Calls Tryz.prog 134 #[v,c] W (A0_ W true (imgM m s))):=hid fun v c W D F h3=>by rw [← xs,← xh];exact Yq1 E m v c s W D hs h3 F yk
 obtain ⟨q1,q2,q3⟩:=J4_ hc q40_;have ye:m.i.length=1:=x48_;obtain ⟨ym,yo,he,_,xr⟩:=xg;injection he with he1 he2 he3;subst he1 he3;obtain ⟨ai,ui,yb,G,xy,P⟩:=xr 0 q40_;subst yb;rw [show (0:Nat) * 6=0 from rfl,add_zero] at xy;rw [show m.i.getD 0 default=inn m from rfl] at P;obtain ⟨lx,ix,xn,xk,xi⟩:=P.open;obtain ⟨x0,x1,x2,x3,x4,x5,d,s0,s1,s2,s3,s4,s5⟩:=xy;rw [xn] at d;injection d with d;injection d with d;injection d with h0 d;injection d with D d;injection d with F d;injection d with h3 d;injection d with h4 d;injection d with h5 _;subst h0 D F h3 h4 h5;have V:=sml_i hs (Y4_ m.i 0 default q40_);rw [show m.i.getD 0 default=inn m from rfl] at V;have yq:(0:Int)<(m.i.length:Int):=q40_;have yr:0<m.i.length:=q40_;obtain ⟨x,X⟩:∃ x,inn m=x:=⟨_,rfl⟩;simp only [X] at P xk xi s0 s1 s2 s3 s4 s5 V q2 q3 xn ⊢;have Hx:=hid X;obtain ⟨Alx,clx,rfl,_⟩:=id xk;obtain ⟨Aix,cix,rfl,_⟩:=id xi;subst xn;have t0:=(g.out.cell (p:=ai) G).trans s0;have t1:=(g.out.cell (p:=⟨ai.block,ai.off+1,none⟩) G).trans s1;have t2:=(g.out.cell (p:=⟨ai.block,ai.off+2,none⟩) G).trans s2;have t3:=(g.out.cell (p:=⟨ai.block,ai.off+3,none⟩) G).trans s3;have t4:=(g.out.cell (p:=⟨ai.block,ai.off+4,none⟩) G).trans s4;have t5:=(g.out.cell (p:=⟨ai.block,ai.off+5,none⟩) G).trans s5;have y9:=hid (P.up g.out);obtain ⟨W1,hW1⟩:∃ W1,W1=(w.alloc (.cells #[.int .i64 m.t,.int .i64 m.n,.int .i64 m.a,.int .i64 m.b,.slice Al m.l.length cl,.slice (some ai) m.i.length ci] 37)).alloc (.cells #[.int .i64 x.t,.int .i64 x.n,.int .i64 x.a,.int .i64 x.b,.slice Alx x.l.length clx,.slice Aix x.i.length cix] 37):=⟨_,rfl⟩;have xo:=hid hW1;have N:Below w.heap.size w W1:=by rw [hW1];exact ((Below.refl _ w).alloc (le_refl _) _).alloc z40_ _
 have Y:=hid N;have ya:=hid (hr.up N);have j:=hid (hE.up N);have r:=hid (P.up N);have xq:=hid (hv.up N);have xa:Hid (Blk W1 w.heap.size 37 #[.int .i64 m.t,.int .i64 m.n,.int .i64 m.a,.int .i64 m.b,.slice Al m.l.length cl,.slice (some ai) m.i.length ci]):=hid j42_;have xc:Hid (Blk W1 (w.heap.size+1) 37 #[.int .i64 x.t,.int .i64 x.n,.int .i64 x.a,.int .i64 x.b,.slice Alx x.l.length clx,.slice Aix x.i.length cix]):=hid y40_;have xf:dp 4 x≤k:=q40_;rw [X] at x7;rw [X] at Q;have d7:(m.t==7)=false:=j40_;have d8:(m.t==8)=false:=j40_;have d5:(m.t==5)=false:=j40_;rw [← xu];have y0:=E0_ x7 Q;have x8:=rk_ok k x q2 xf;have e1:rkP k x (memP (Y1_ (imgM m s) (row m 0)))=rkP k x (orP (memP (row m 0)) (memP (imgM m s))):=x8.ext fun i _=>by rw [I3_ x7.1 Q.1];unfold orP;rw [Bool.or_comm]
 have xv:rkP k x (memP (row m 0))≤rkP k x (orP (memP (row m 0)) (memP (imgM m s))):=x8.mono fun i _ h=>by unfold orP;rw [h];rfl
 have b1:=x8.le_cnt (orP (memP (row m 0)) (memP (imgM m s)));have b2:=A3_ (orP (memP (row m 0)) (memP (imgM m s))) (nN x);have b3:=(Y0_ q2).2;have yi:=Y7_ Q;obtain ⟨B,Z⟩:∃ B:Nat,rkP k x (orP (memP (row m 0)) (memP (imgM m s)))=B:=⟨_,rfl⟩;obtain ⟨C,x6⟩:∃ C:Nat,rkP k x (memP (row m 0))=C:=⟨_,rfl⟩;rw [Z,x6] at xv;rw [Z] at e1 b1;rw [Z,x6];have y6:Hid (∀ (v c:Value) (W:World),MatV W W.heap.size v x→Row W W.heap.size c (Y1_ (imgM m s) (row m 0))→Env E W→Calls Tryz.prog 77 #[v,c] W (Tells W (B:Int))):=hid fun v c W D F h3=>by rw [← e1];exact ih x v c _ W D V q2 xf F y0 h3
 have y7:Hid (∀ (v c:Value) (W:World),MatV W W.heap.size v x→Row W W.heap.size c (row m 0)→Env E W→Calls Tryz.prog 77 #[v,c] W (Tells W (C:Int))):=hid fun v c W D F h3=>by rw [← x6];exact ih x v c _ W D V q2 xf F Q h3
 have yy:IntKind.i64.wrap ((B:Int) - (C:Int))=(B:Int) - (C:Int):=k40_;obtain ⟨M,hM⟩:∃ M:Int,M=((B - C:Nat):Int):=⟨_,rfl⟩;have HM:Hid ((B:Int) - (C:Int)=M):=hid q40_;rw [← hM];have yg:m.l.length=1:=(D2_ hc (.inr R)).1;obtain ⟨yn,yp,yd,_,xt⟩:=xj;injection yd with hel1 hel2 hel3;subst hel1 hel3;obtain ⟨ad,u0,yc,xd,xe,xm⟩:=xt 0 q40_;subst yc;rw [add_zero] at xe;rw [show m.l.getD 0 []=row m 0 from rfl] at xm;have yt:(0:Int)<(m.l.length:Int):=q40_;have yu:0<m.l.length:=q40_;have yf:(imgM m s).length≤1048576:=q40_;have yj:(row m 0).length≤1048576:=q40_;have q:=hid (xm.up Y.out);have y5:=hid ((Y.out.cell (p:=ad) xd).trans xe);have y2:=hid (show ad.block<W1.heap.size from Nat.lt_of_lt_of_le xd Y.out.size);clear R y0 x8 e1 xv b1 b2 b3 yi Z x6 hM yg hel2 xt xd xe xm Q;clear Hv HL HE xp x9 hs K ye xr he2 xk xi s0 s1 s2 s3 s4 s5 G X P q1 hv hr hE V ih HI y9 xz xh xs x7 xu xl
 go_enter Tryz.func107,Tryz.ntmps107
 rw [hW0] at g t0 t1 t2 t3 t4 t5 T;have g0:=T 0;have g5:=T 5;clear hW0 y1 yh T hW1 N
 go_wp2_with fail
 rw [← xo.out];refine (y8.out _ _ _ xq.out ya.out j.out).mono ?_;rintro e J ⟨v2,rfl,xw,z,_⟩;have y3:=hid (Z0_ Y.out (le_refl _) z);have xb:=hid (xa.out.below z xa.out.lt);have o:=hid (xc.out.below z xc.out.lt);replace j:=hid (j.out.up z);replace r:=hid (r.out.up z);have y:=hid xw;have m0:=xb.out.cell 0;have m4:=xb.out.cell 4;have cu:=(z.cell (p:=ad) y2.out).trans y5.out;replace q:=hid (q.out.up z);clear z xw g0 g5 t0 t1 t2 t3 t4 t5 xa xc xo g;obtain ⟨Ag,cg,yl,_⟩:=id q.out;subst yl;go_wp2;clear m0 m4 cu;have U:=(Below.refl J.heap.size J).drew;replace j:=hid (j.out.up U);replace r:=hid (r.out.up U);replace y:=hid (y.out.up U);replace q:=hid (q.out.up U);clear U;have K1:Hid (∀ W,Below J.drew.heap.size J.drew W→W.cell? ⟨w.heap.size+1,0,none⟩=some (.int .i64 x.t)∧W.cell? ⟨w.heap.size+1,1,none⟩=some (.int .i64 x.n)∧W.cell? ⟨w.heap.size+1,2,none⟩=some (.int .i64 x.a)∧W.cell? ⟨w.heap.size+1,3,none⟩=some (.int .i64 x.b)∧W.cell? ⟨w.heap.size+1,4,none⟩=some (.slice Alx x.l.length clx)∧W.cell? ⟨w.heap.size+1,5,none⟩=some (.slice Aix x.i.length cix)):=hid fun W L=>⟨(o.out.drew.below L o.out.lt).cell 0,(o.out.drew.below L o.out.lt).cell 1,(o.out.drew.below L o.out.lt).cell 2,(o.out.drew.below L o.out.lt).cell 3,(o.out.drew.below L o.out.lt).cell 4,(o.out.drew.below L o.out.lt).cell 5⟩;have u:Hid (Below J.drew.heap.size J.drew J.drew):=hid (Below.refl _ _);clear xb o xq;generalize w.heap.size+1=B1 at *
 go_region_held3 (fun W=>W.cell? ⟨B1,0,none⟩=some (.int .i64 x.t)∧W.cell? ⟨B1,1,none⟩=some (.int .i64 x.n)∧W.cell? ⟨B1,2,none⟩=some (.int .i64 x.a)∧W.cell? ⟨B1,3,none⟩=some (.int .i64 x.b)∧W.cell? ⟨B1,4,none⟩=some (.slice Alx x.l.length clx)∧W.cell? ⟨B1,5,none⟩=some (.slice Aix x.i.length cix))
  (exact K1.out _ u.out)
  (first
  | (go_at_call 119;refine (Yy1 _ _ (imgM m s) (row m 0) _ y.out q.out yf yj).mono ?_;rintro e w3 ⟨v3,rfl,xx,O⟩;replace u:=hid (Z0_ u.out (le_refl _) O);(try replace j:=hid (j.out.up O));(try replace r:=hid (r.out.up O));(try replace y:=hid (y.out.up O));(try replace q:=hid (q.out.up O));have S:=hid xx;clear xx O)
  | (go_at_call_of 77 (Value.slice Ag (row m 0).length cg);refine (y7.out _ _ _ r.out q.out j.out).mono ?_;rintro e w5 ⟨rfl,I⟩;replace u:=hid (Z0_ u.out (le_refl _) I);(try replace j:=hid (j.out.up I));(try replace r:=hid (r.out.up I));(try replace y:=hid (y.out.up I));(try replace q:=hid (q.out.up I));(try replace S:=hid (S.out.up I));clear I)
  | (go_at_call_of 77 v3;refine (y6.out _ _ _ r.out S.out j.out).mono ?_;rintro e w4 ⟨rfl,H⟩;replace u:=hid (Z0_ u.out (le_refl _) H);(try replace j:=hid (j.out.up H));(try replace r:=hid (r.out.up H));(try replace y:=hid (y.out.up H));(try replace q:=hid (q.out.up H));(try replace S:=hid (S.out.up H));clear H))
 all_goals
  have y4:=hid (Z0_ y3.out.drew (le_refl _) u.out);clear u;go_simp;go_wp2;go_ret;exact ⟨by rw [← HM.out];rfl,y4.out⟩
open Go.RowKit
def offN (l:List Mat) (j:Nat):Nat:=((l.take j).map nN).sum
theorem Zd8 {l:List Mat} {j:Nat} (c:j<l.length):offN l (j+1)=offN l j+nN (l.getD j default):=by
 unfold offN;rw [List.take_succ_eq_append_getElem c,List.map_append,List.sum_append,show l.getD j default=l[j] by simp [List.getD,c]];simp
theorem Xf5 (l:List Mat):∀ j,offN l j≤(l.map nN).sum:=by
 intro j;unfold offN
 conv=>rhs;rw [← List.take_append_drop j l,List.map_append,List.sum_append]
 exact Nat.le_add_right _ _
theorem Zd9 (f:Mat→(Nat→Bool)→Nat):∀ (a b:List Mat) (P:Nat→Bool),sumR f (a ++ b) P=sumR f a P+sumR f b (fun i=>P ((a.map nN).sum+i))
 | [],b,P=>by simp [sumR]
 | x :: a,b,P=>by
  rw [List.cons_append,sumR,sumR,Zd9 f a b,List.map_cons,List.sum_cons];have:(fun i=>(fun i=>P (nN x+i)) ((a.map nN).sum+i))=fun i=>P (nN x+(a.map nN).sum+i):=by funext i;show P _=P _;rw [Nat.add_assoc]
  rw [this];omega
theorem Yy7 (f:Mat→(Nat→Bool)→Nat) {l:List Mat} {j:Nat} (c:j<l.length) (P:Nat→Bool):sumR f (l.take (j+1)) P=sumR f (l.take j) P+f (l.getD j default) (fun i=>P (offN l j+i)):=by
 rw [List.take_succ_eq_append_getElem c,Zd9,show l.getD j default=l[j] by simp [List.getD,c]];simp [sumR,offN]
theorem Yf1 {s:List Int} {N f n:Nat} (hs:InN N s) (e:n≤64):InN n (betL s f n):=by
 have hb:∀ x∈betL s (f:Int) (n:Int),0≤x∧x<(n:Int):=fun x c=>by
  obtain ⟨z,d,rfl⟩:=List.mem_map.1 c;have:=(List.mem_filter.1 d).2;unfold betB at this;rw [Bool.and_eq_true,decide_eq_true_iff,decide_eq_true_iff] at this;omega
 refine ⟨⟨?_,fun x c=>⟨(hb x c).1,by have:=(hb x c).2;omega⟩⟩,hb⟩;unfold betL;rw [List.pairwise_map];exact (hs.1.1.sublist List.filter_sublist).imp fun h=>by omega
theorem Zo9 {s:List Int} {f n i:Nat} (d:i<n):memP (betL s f n) i=memP s (f+i):=by
 rw [Bool.eq_iff_iff,memP_iff,memP_iff];unfold betL;rw [List.mem_map];constructor
 ·rintro ⟨z,c,e⟩
  have:=(List.mem_filter.1 c).1
  rwa [show (((f+i:Nat)):Int)=z by omega]
 ·intro h
  refine ⟨((f+i:Nat):Int),List.mem_filter.2 ⟨h,?_⟩,q40_⟩;unfold betB;rw [decide_eq_true q40_,decide_eq_true q40_];rfl
theorem Vk3 (E:Nat→Addr) (k:Nat) (m:Mat) (iv o:Value) (s:List Int) (w:World) (hi:MatL w w.heap.size iv m.i) (hs:Sml m) (hc:chk m=0) (V:Row w w.heap.size o s) (H:InN (nN m) s) (hE:Env E w) (ih:Zi6 E k) (hd:dp 4 m≤k+1) (ht:m.t=9) :
  Calls Tryz.prog 106 #[iv,o] w (Tells w (sumR (rkP k) m.i (memP s):Nat)):=by
 obtain ⟨y8,h8⟩:=Zo5 hc ht;have yc:=(Y0_ hc).2;have xg:∀ j,offN m.i j≤64:=fun j=>by have:=Xf5 m.i j;omega
 have T:∀ j,j<m.i.length→chk (m.i.getD j default)=0∧dp 4 (m.i.getD j default)≤k∧Sml (m.i.getD j default):=fun j hj=>k25_;have xh:∀ j,j≤m.i.length→sumR (rkP k) (m.i.take j) (memP s)≤offN m.i j:=by
  intro j
  induction j with
  | zero=>intro _;simp [sumR]
  | succ j ihj =>
   intro hj;have D:=ihj q40_;obtain ⟨c1,c2,_⟩:=T j q40_;have r:=(rk_ok k _ c1 c2).le_cnt (fun i=>memP s (offN m.i j+i));have h3:=A3_ (fun i=>memP s (offN m.i j+i)) (nN (m.i.getD j default));rw [Yy7 _ q40_,Zd8 q40_];omega
 have yd:=Y7_ H;have xk:∀ j,j<s.length→0≤s.getD j 0∧s.getD j 0≤64:=fun j hj=>by have:=L9_ H hj;omega
 obtain ⟨Ai,ci,rfl,_,xa⟩:=hi;obtain ⟨As,cs,rfl,_⟩:=id V;have xr:=hid xa;have Hr:=hid V;have HE:=hid hE;have HS:=hid H;have x7:=hid xg;have xt:=hid T;have xv:=hid xh;have xx:=hid xk;have y9:(m.i.length:Int)≤8:=q40_;have y7:s.length≤64:=q40_;clear xa V hE H xg T xh xk hs y8 hd
 go_enter Tryz.func106,Tryz.ntmps106
 go_wp2
 go_loopw [5,6,11] (fun vm vf Z wr=>∃ j:Nat,Z=.int .i64 j∧j≤m.i.length∧vm=.int .i64 (sumR (rkP k) (m.i.take j) (memP s):Nat)∧vf=.int .i64 (offN m.i j:Nat)∧Below w.heap.size w wr) (fun _ _ Z _=>m.i.length - (intOf Z).toNat)
 case atStart=>exact ⟨0,rfl,Nat.zero_le _,by simp [sumR],by simp [offN],Below.refl _ _⟩
 case round =>
  obtain ⟨j,rfl,hj,rfl,rfl,g⟩:=hrel;by_cases L:j<m.i.length
  ·have yb:(j:Int)<(m.i.length:Int):=by omega
   obtain ⟨ai,ui,y0,hab,xj,xe⟩:=xr.out j L;subst y0;obtain ⟨c1,c2,c3⟩:=xt.out j L;have q:=Yy7 (rkP k) L (memP s);have U:=Zd8 L;have xf:=x7.out j;have y4:=x7.out (j+1);have y5:=xv.out (j+1) q40_;have y6:=xj.below g k41_;have S:=(xe.bel g).mono g.size;obtain ⟨lx,ix,xl,xd,xb⟩:=S.open;obtain ⟨x0,x1,x2,x3,x4,x5,c,s0,s1,s2,s3,s4,s5⟩:=y6;rw [xl] at c;injection c with c;injection c with c;injection c with h0 c;injection c with D c;injection c with r c;injection c with h3 c;injection c with h4 c;injection c with h5 _;subst h0 D r h3 h4 h5;generalize m.i.getD j default=x at *
   obtain ⟨z,C,rfl,_⟩:=id xd;obtain ⟨y,B,rfl,_⟩:=id xb;subst xl;have Y:=Y0_ c1;have Q:=Yf1 (f:=offN m.i j) (n:=nN x) HS.out Y.2;have X:=rk_ok k x c1 c2;have e1:rkP k x (memP (betL s (offN m.i j:Nat) (nN x:Nat)))=rkP k x (fun i=>memP s (offN m.i j+i)):=X.ext fun i y3=>Zo9 y3;rw [← e1] at q;have O:=X.le_cnt (memP (betL s (offN m.i j:Nat) (nN x:Nat)));have b2:=A3_ (memP (betL s (offN m.i j:Nat) (nN x:Nat))) (nN x);obtain ⟨W1,I⟩:∃ W1,W1=wr.alloc (.cells #[.int .i64 x.t,.int .i64 x.n,.int .i64 x.a,.int .i64 x.b,.slice z x.l.length C,.slice y x.i.length B] 37):=⟨_,rfl⟩;have x6:=hid I;have u:Below wr.heap.size wr W1:=by rw [I];exact (Below.refl _ wr).alloc (le_refl _) _
   have x9:Blk W1 wr.heap.size 37 #[.int .i64 x.t,.int .i64 x.n,.int .i64 x.a,.int .i64 x.b,.slice z x.l.length C,.slice y x.i.length B]:=by rw [I];exact Blk.new wr _ _
   have d:=hid x9;have K:=(Below.refl W1.heap.size W1).drew;have xm:=hid (g.trans (u.mono g.size));have xz:=hid (((Hr.out.up g).up u).up K);have M:=hid (((HE.out.up g).up u).up K);have N:=hid ((S.up u).up K);obtain ⟨F,hF⟩:∃ F,offN m.i j=F:=⟨_,rfl⟩;obtain ⟨G,hG⟩:∃ G,sumR (rkP k) (m.i.take j) (memP s)=G:=⟨_,rfl⟩;rw [hF] at Q O b2 q U xf ⊢;rw [hG] at q ⊢;obtain ⟨R,P⟩:∃ R:Nat,rkP k x (memP (betL s (F:Nat) (nN x:Nat)))=R:=⟨_,rfl⟩;rw [P] at q O;have xq:Hid (∀ (v o:Value) (W:World),MatV W W.heap.size v x→Row W W.heap.size o (betL s (F:Nat) x.n)→Env E W→Calls Tryz.prog 77 #[v,o] W (Tells W (R:Int))):=hid fun v o W D r h3=>by rw [← P];rw [← Y.1] at r;exact ih x v o _ W D c3 c1 c2 r Q h3
   have y1:0≤(F:Int)∧(F:Int)≤1000:=q40_;have y2:0≤x.n∧x.n≤1000:=q40_;have ye:IntKind.i64.wrap ((G:Int)+(R:Int))=(G:Int)+(R:Int):=k40_;have yf:IntKind.i64.wrap ((F:Int)+x.n)=(F:Int)+x.n:=k40_;have xy:Hid ((G:Int)+(R:Int)=(sumR (rkP k) (m.i.take (j+1)) (memP s):Nat)):=hid (by rw [q];omega);have xu:Hid ((F:Int)+x.n=(offN m.i (j+1):Nat)):=hid (by rw [U];omega);have K1:Hid (∀ W,Below W1.drew.heap.size W1.drew W→W.cell? ⟨wr.heap.size,0,none⟩=some (.int .i64 x.t)∧W.cell? ⟨wr.heap.size,1,none⟩=some (.int .i64 x.n)∧W.cell? ⟨wr.heap.size,2,none⟩=some (.int .i64 x.a)∧W.cell? ⟨wr.heap.size,3,none⟩=some (.int .i64 x.b)∧W.cell? ⟨wr.heap.size,4,none⟩=some (.slice z x.l.length C)∧W.cell? ⟨wr.heap.size,5,none⟩=some (.slice y x.i.length B)):=hid fun W p=>⟨(d.out.drew.below p d.out.lt).cell 0,(d.out.drew.below p d.out.lt).cell 1,(d.out.drew.below p d.out.lt).cell 2,(d.out.drew.below p d.out.lt).cell 3,(d.out.drew.below p d.out.lt).cell 4,(d.out.drew.below p d.out.lt).cell 5⟩;have h:Hid (Below W1.drew.heap.size W1.drew W1.drew):=hid (Below.refl _ _);clear I u x9 K Q X e1 O b2 q U xf y4 y5 hF hG P Y xe S xd xb xj hab c1 c2 c3 g ih hc;go_wp2;rw [← x6.out];clear s0 s1 s2 s3 s4 s5 x6 d;generalize wr.heap.size=B1 at *
   go_region_held3 (fun W=>W.cell? ⟨B1,0,none⟩=some (.int .i64 x.t)∧W.cell? ⟨B1,1,none⟩=some (.int .i64 x.n)∧W.cell? ⟨B1,2,none⟩=some (.int .i64 x.a)∧W.cell? ⟨B1,3,none⟩=some (.int .i64 x.b)∧W.cell? ⟨B1,4,none⟩=some (.slice z x.l.length C)∧W.cell? ⟨B1,5,none⟩=some (.slice y x.i.length B))
    (exact K1.out _ h.out)
    (first
    | (go_at_call 133;refine (Yf0 _ s (F:Int) x.n _ xz.out xx.out y1 y2 y7).mono ?_;rintro e w3 ⟨v3,rfl,xi,J⟩;replace h:=hid (Z0_ h.out (le_refl _) J);replace M:=hid (M.out.up J);replace N:=hid (N.out.up J);have xw:=hid xi;clear xi J)
    | (go_at_call 77;refine (xq.out _ _ _ N.out xw.out M.out).mono ?_;rintro e w4 ⟨rfl,x8⟩;replace h:=hid (Z0_ h.out (le_refl _) x8);clear x8))
   all_goals
    obtain ⟨_,q1,_⟩:=K1.out _ h.out;have xn:=hid (Z0_ xm.out.drew (le_refl _) h.out);clear h;go_simp;go_wp2
    go_roundw
    case rel=>exact ⟨j+1,x41_,q40_,by rw [← xy.out],by rw [← xu.out],xn.out⟩
    exact mz_
  ·have xc:j=m.i.length:=by omega
   have xs:=hid xc;have xp:Hid (m.i.take j=m.i):=hid (by rw [xs.out,List.take_length]);have xo:=hid g;have ya:¬ (j:Int)<(m.i.length:Int):=q40_;clear g xc;go_wp2;go_ret;exact ⟨by rw [xp.out];rfl,xo.out⟩
theorem Yn3 (E:Nat→Addr):∀ k,Zi6 E k
 | 0=>fun m _ _ _ _ _ _ _ hd _ _ _=>absurd hd (by have:=Zc2 4 m;omega)
 | k+1=>fun m v d s w h hs hc hd g e f=>by
  have p:=Yn3 E k;have r:=Zo4 hc;rcases (by omega:m.t=0∨m.t=1∨m.t=2∨m.t=3∨m.t=4∨m.t=5∨m.t=6∨m.t=7∨m.t=8∨m.t=9) with c | c | c | c | c | c | c | c | c | c
  ·exact Vu8 E k m v d s w h hs hc g e f c
  ·exact Vu9 E k m v d s w h hs hc g e f c
  ·exact Vw0 E k m v d s w h hs hc g e f c
  ·exact Vw1 E k m v d s w h hs hc g e f c
  ·exact Vw2 E k m v d s w h hs hc g e f c
  ·exact Zj8 E k m v d s w h hs hc g e f q40_ _ fun v d W j o h3=>one_5 E k m v d s W j hs hc o e h3 p hd c
  ·exact Zj8 E k m v d s w h hs hc g e f q40_ _ fun v d W j o h3=>one_6 E k m v d s W j hs hc o e h3 p hd c
  ·exact Zj8 E k m v d s w h hs hc g e f q40_ _ fun v d W j o h3=>one_7 E k m v d s W j hs hc o e h3 p hd c
  ·exact Zj8 E k m v d s w h hs hc g e f q40_ _ fun v d W j o h3=>one_8 E k m v d s W j hs hc o e h3 p hd c
  ·rw [rkP_9 q40_]
   exact Vw3 E k m v d s w h hs hc g e f c _ fun q d W j o h3=>Vk3 E k m q d s W j hs hc o e h3 p hd c
end Go.Proofs.YtheeajnkiniopaaGreatDoor.Wp
