/- The program's picked and edges, walked: rows that are made and filled. The program's ofClasses and between, walked. What the layers below tell of the elements that are picked is the rank: plain. The program's rank of a set of elements, walked. The program's ofOne, ofSum and rank, walked. The program's ofSum, and rank as a whole, walked. -/
import Derived.Test.YtigobiacbficaaaGreatDoorZJ
import Derived.Test.YtigobiacbficaaaGreatDoorZA
import Derived.Test.YtigobiacbficaaaGreatDoorZL
import Derived.Test.YtigobiacbficaaaGreatDoorIRank
import Derived.Test.YtigobiacbficaaaGreatDoorZO
import Derived.Test.YtigobiacbficaaaGreatDoorZK
import Derived.Test.YtigobiacbficaaaGreatDoorIUnion
import Derived.Test.YtigobiacbficaaaGreatDoorQTD
import Derived.Deep.RegionHeld3
import Derived.Test.YtigobiacbficaaaGreatDoorX0A
import Derived.Test.YtigobiacbficaaaGreatDoorX0B
set_option maxHeartbeats 8000000
set_option maxRecDepth 100000
open Go.Lib (hid)
open Nat (le_refl)
namespace Go.Proofs.YtigobiacbficaaaGreatDoor.Wp
open Go.RowKit
def fillV (U:Nat→Value) (z:Value) (n k:Nat):Array Value:=((List.range n).map fun i=>if i<k then U i else z).toArray
theorem G4_ (U:Nat→Value) (z:Value) (n k:Nat):(fillV U z n k).size=n:=by simp [fillV]
theorem C3_ {U:Nat→Value} {z:Value} {n k i:Nat} (h:i<n):(fillV U z n k)[i]?=some (if i<k then U i else z):=by simp [fillV,h]
theorem Zf0 {U:Nat→Value} {z:Value} {n k:Nat}:(fillV U z n k).setIfInBounds k (U k)=fillV U z n (k+1):=by
 apply Array.ext
 ·rw [Array.size_setIfInBounds,G4_,G4_]
 ·intro i c h2
  rw [Array.size_setIfInBounds,G4_] at c;have a:(fillV U z n (k+1))[i]?=some (if i<k+1 then U i else z):=C3_ c;have b:(fillV U z n k)[i]?=some (if i<k then U i else z):=C3_ c;rw [Array.getElem?_eq_getElem (by rw [G4_];exact c)] at a b;injection a with a;injection b with b;rw [a,Array.getElem_setIfInBounds]
  ·split
   ·rename_i e;subst e;rw [if_pos y40_]
   ·rename_i e
    rw [b];by_cases h:i<k
    ·rw [if_pos h,if_pos y40_]
    ·rw [if_neg h,if_neg y40_]
  ·rw [G4_];exact c
theorem Vr4 {w:World} {g n sz:Nat} {t:TypeId} {L:List Value} (h:w.ownsRow g t sz (.slice (some ⟨g,0,none⟩) n n) n L):Blk w g t L.toArray:=by
 rcases h.2 with ⟨e,_⟩ | ⟨m,k,c,j,hb,f,o,h2,h3,d⟩
 ·cases e
 ·injection j with e1 _ e3
  injection e1 with e1;injection e1 with e1;subst e1 e3;unfold Blk;rw [f];have hc:c.toList=L:=by
   rw [← d,List.take_of_length_le];rw [Array.length_toList,h3];exact le_refl _
  rw [← hc]
theorem Zl5 {w:World} {g n sz:Nat} {t:TypeId} {z:Value} {cs:Array Value} (h:w.ownsRow g t sz (.slice (some ⟨g,0,none⟩) n n) n (madeCells cs (n * sz)).toList) (d:∀ i,i<n * sz→(madeCells cs (n * sz))[i]?=some z) (hs:(madeCells cs (n * sz)).size=n * sz) (U:Nat→Value):Blk w g t (fillV U z (n * sz) 0):=by
 have c:=Vr4 h;rw [Array.toArray_toList] at c;have e:madeCells cs (n * sz)=fillV U z (n * sz) 0:=by
  apply Array.ext
  ·rw [hs,G4_]
  ·intro i a b
   have x:=d i y40_;have y:(fillV U z (n * sz) 0)[i]?=_:=C3_ y40_;rw [if_neg y40_] at y;rw [Array.getElem?_eq_getElem a] at x;rw [Array.getElem?_eq_getElem b] at y;exact Option.some.inj (x.trans y.symm)
 rw [← e];exact c
theorem Vq2 {w:World} {g n:Nat} {t:TypeId} {z:Value} (e:z.cells=#[z]) (h:w.ownsRow g t 1 (.slice (some ⟨g,0,none⟩) n n) n (madeCells z.cells n).toList) (U:Nat→Value):Blk w g t (fillV U z n 0):=by
 have c:w.ownsRow g t 1 (.slice (some ⟨g,0,none⟩) n n) n (madeCells z.cells (n * 1)).toList:=by rw [Nat.mul_one];exact h
 have:=Zl5 (z:=z) c (fun i d=>by unfold madeCells;rw [e,Array.getElem?_map,Array.getElem?_range,if_pos d];simp [Nat.mod_one]) (by simp [madeCells]) U
 rwa [Nat.mul_one] at this
theorem Zs2:(Tryz.prog.info? 28).map (fun i=>(i.zero,i.size,i.bytes))=some (some (.slice none 0 0),1,24):=z40_
theorem Jv7:(Tryz.prog.info? 108).map (fun i=>(i.zero,i.size,i.bytes))=some (some (.agg #[.int .i64 0,.int .i64 0]),2,16):=z40_
theorem add_g (g k:Nat):(⟨g,0,none⟩:Addr).add k=⟨g,k,none⟩:=j44_
def F4_ (l:List (List Int)) (s:List Int):List (List Int):=s.map fun x=>l.getD x.toNat []
def Xj1 (w:World) (l:List (List Int)) (e:Ending) (w':World):Prop:=∃ u,e=.returned u∧Rows2 w' w'.heap.size u l∧Below w.heap.size w w'
theorem Zl6 (v sv:Value) (l:List (List Int)) (s:List Int) (w:World) (hv:Rows2 w w.heap.size v l) (hr:Row w w.heap.size sv s) (hs:∀ k,k<s.length→0≤s.getD k 0∧s.getD k 0<(l.length:Int)) (hl:l.length≤1000) (xc:s.length≤64) :
  Calls Tryz.prog 77 #[v,sv] w (Xj1 w (F4_ l s)):=by
 obtain ⟨Al,cl,rfl,m,R⟩:=hv;obtain ⟨As,cs,rfl,o,S⟩:=hr;have y:∀ j,∃ u,j<l.length→∃ d:Addr,Al=some d∧d.block<w.heap.size∧w.cell? (d.add j)=some u∧Row w w.heap.size u (l.getD j []):=fun j=>by
  by_cases h:j<l.length
  ·obtain ⟨d,u,h1,h2,h3,h4⟩:=R j h
   exact ⟨u,fun _=>⟨d,h1,h2,h3,h4⟩⟩
  ·exact ⟨.nilIface,fun h'=>absurd h' h⟩
 obtain ⟨V,y⟩:=Classical.axiomOfChoice y;have K:=hid y;have N:=hid hs;have x0:=hid S;have x9:(l.length:Int)≤1000:=y40_;have xb:(s.length:Int)≤64:=y40_;obtain ⟨U,hU⟩:∃ U:Nat→Value,U=fun k=>V (s.getD k 0).toNat:=⟨_,rfl⟩;have J:=hid hU;obtain ⟨i0,F,x6,x7,hz2⟩:=info_parts Zs2;clear R S m o y hs hU
 go_enter Tryz.func77,Tryz.ntmps77
 go_wp2_with (at_make;refine wpList_make_full w rfl _ _ 22 rfl w.heap.size 28 i0 (.slice none 0 0) 1 z40_ F x6 x7 .i64 .i64 _ _ s.length rfl rfl (by rfl) (by rfl) x49_ z41_ (le_refl _) ?_)
 intro w1 W Q;have c:=Vq2 (z:=.slice none 0 0) rfl W U;have P:Below w.heap.size w w1:=(Below.refl _ w).grown Q (le_refl _) (fun i F=>by cases F);have M:=hid c;have L:=hid P;clear W Q c P;go_wp2
 go_loopw [13] (fun I wr=>∃ k:Nat,I=.int .i64 k∧k≤s.length∧Blk wr w.heap.size 28 (fillV U (.slice none 0 0) s.length k)∧Below w.heap.size w wr) (fun I _=>s.length - (intOf I).toNat)
 case atStart=>exact ⟨0,rfl,Nat.zero_le _,M.out,L.out⟩
 case round =>
  obtain ⟨k,rfl,hk,c,g⟩:=hrel;have C:=hid c;have r:=hid g;clear M L;by_cases G:k<s.length
  ·have xa:(k:Int)<(s.length:Int):=by omega
   have H:=N.out k G;obtain ⟨X,E⟩:∃ X:Nat,s.getD k 0=(X:Int):=⟨(s.getD k 0).toNat,y40_⟩;obtain ⟨x1,x,hasb,o⟩:=x0.out k G;subst x;rw [E] at H o;have x2:X<l.length:=y40_;have x8:(X:Int)<(l.length:Int):=y40_;obtain ⟨al,x,halb,m,x5⟩:=K.out X x2;subst x;obtain ⟨Ay,cy,q,_⟩:=x5;obtain ⟨Y,T⟩:∃ Y,(l.getD X []).length=Y:=⟨_,rfl⟩;rw [T] at q;have gs:=(g.cell (p:=x1.add k) y47_).trans o;have O:=(g.cell (p:=al.add X) q47_).trans m;have D:U k=V X:=by rw [J.out];show V (s.getD k 0).toNat=V X;rw [E];rfl
   rw [← D] at O;have gf:=c.frozen k;obtain ⟨Z,gc⟩:∃ Z,wr.cell? ⟨w.heap.size,k,none⟩=some Z:=⟨_,by rw [c.cell];exact C3_ G⟩;rw [← D] at q;have Hy:=hid q;rw [q] at O;clear c g o m E H D q T;go_wp2
   go_roundw
   case rel=>exact ⟨k+1,j41_,y40_,by rw [← Zf0,Hy.out];exact C.out.set_ k _,r.out.setCell (by exact le_refl _) _⟩
   exact mz_
  ·have x3:k=s.length:=by omega
   subst x3;clear c g;go_wp2;go_ret;refine ⟨_,rfl,⟨some ⟨w.heap.size,0,none⟩,s.length,by simp [F4_],⟨by simp [F4_],by unfold maxLen;omega,fun e=>by cases e⟩,fun j hj=>?_⟩,r.out⟩;have B:j<s.length:=by simpa [F4_] using hj
   have H:=N.out j B;obtain ⟨al,x,halb,m,x4⟩:=K.out (s.getD j 0).toNat y40_;refine ⟨⟨w.heap.size,0,none⟩,U j,rfl,C.out.lt,?_,?_⟩
   ·rw [add_g,C.out.cell,C3_ B,if_pos B]
   ·rw [J.out,show (F4_ l s).getD j []=l.getD (s.getD j 0).toNat [] by simp [F4_,List.getD,B]]
    exact (x4.below r.out).mono r.out.size
def R8_ (l:List (List Int)) (s:List Int):List (Int × Int):=s.map fun x=>((l.getD x.toNat []).getD 0 0,(l.getD x.toNat []).getD 1 0)
def Xj2 (w:World) (l:List (Int × Int)) (e:Ending) (w':World):Prop:=∃ u,e=.returned u∧Edges w' w'.heap.size u l∧Below w.heap.size w w'
def edgU (E:List (Int × Int)) (j:Nat):Value:=if j % 2=0 then .int .i64 (E.getD (j / 2) (0,0)).1 else .int .i64 (E.getD (j / 2) (0,0)).2
theorem Vi1 (E:List (Int × Int)) (k:Nat):edgU E (k * 2)=.int .i64 (E.getD k (0,0)).1:=by
 unfold edgU;rw [if_pos y40_,Nat.mul_div_cancel _ q41_]
theorem Vi2 (E:List (Int × Int)) (k:Nat):edgU E (k * 2+1)=.int .i64 (E.getD k (0,0)).2:=by
 unfold edgU;rw [if_neg y40_,show (k * 2+1) / 2=k by omega]
theorem Vq3 {w:World} {g n:Nat} {t:TypeId} (h:w.ownsRow g t 2 (.slice (some ⟨g,0,none⟩) n n) n (madeCells (Value.agg #[.int .i64 0,.int .i64 0]).cells (n * 2)).toList) (U:Nat→Value):Blk w g t (fillV U (.int .i64 0) (n * 2) 0):=by
 refine Zl5 h (fun i c=>?_) (by simp [madeCells]) U;have e:(Value.agg #[.int .i64 0,.int .i64 0]).cells=#[.int .i64 0,.int .i64 0]:=rfl;rw [e];unfold madeCells;rw [Array.getElem?_map,Array.getElem?_range,if_pos c];have h2:i % 2=0∨i % 2=1:=y40_;rcases h2 with h2 | h2<;>simp [h2]
theorem Jv8 (d:Addr) (c:Nat) (w:World):(Instr.arrayAt 108 (.slice (some d) 2 c)).run Tryz.prog w=.ok (.pointer (some d)) w:=z40_
theorem Xl1 (v sv:Value) (l:List (List Int)) (s:List Int) (w:World) (hv:Rows2 w w.heap.size v l) (hr:Row w w.heap.size sv s) (hs:∀ k,k<s.length→0≤s.getD k 0∧s.getD k 0<(l.length:Int)) (h2:∀ i,i<l.length→(l.getD i []).length=2) (hl:l.length≤1000) (xi:s.length≤64) :
  Calls Tryz.prog 74 #[v,sv] w (Xj2 w (R8_ l s)):=by
 obtain ⟨Al,cl,rfl,m,V⟩:=hv;obtain ⟨As,cs,rfl,o,Y⟩:=hr;have x2:=hid V;have Hs:=hid hs;have H2:=hid h2;have x3:=hid Y;have xf:(l.length:Int)≤1000:=y40_;have xh:(s.length:Int)≤64:=y40_;obtain ⟨E,H⟩:∃ E,E=R8_ l s:=⟨_,rfl⟩;have L:=hid H;rw [← H];obtain ⟨i0,J,x7,x8,hz2⟩:=info_parts Jv7;clear V Y m o hs h2 H
 go_enter Tryz.func74,Tryz.ntmps74
 go_wp2_with (at_make;refine wpList_make_full w rfl _ _ 79 rfl w.heap.size 108 i0 (.agg #[.int .i64 0,.int .i64 0]) 2 z40_ J x7 x8 .i64 .i64 _ _ s.length rfl rfl (by rfl) (by rfl) x49_ z41_ (le_refl _) ?_)
 intro w1 Z U;have d:=Vq3 Z (edgU E);have T:Below w.heap.size w w1:=(Below.refl _ w).grown U (le_refl _) (fun i J=>by cases J);have N:=hid d;have M:=hid T;clear Z U d T;go_wp2
 go_loopw [13] (fun K wr=>∃ k:Nat,K=.int .i64 k∧k≤s.length∧Blk wr w.heap.size 108 (fillV (edgU E) (.int .i64 0) (s.length * 2) (k * 2))∧Below w.heap.size w wr) (fun K _=>s.length - (intOf K).toNat)
 case atStart=>exact ⟨0,rfl,Nat.zero_le _,N.out,M.out⟩
 case round =>
  obtain ⟨k,rfl,hk,d,h⟩:=hrel;have r:=hid d;have O:=hid h;clear N M;by_cases D:k<s.length
  ·have xg:(k:Int)<(s.length:Int):=by omega
   have hx:=Hs.out k D;obtain ⟨X,y⟩:∃ X:Nat,s.getD k 0=(X:Int):=⟨(s.getD k 0).toNat,y40_⟩;obtain ⟨x4,g,hasb,o⟩:=x3.out k D;subst g;have x:E.getD k (0,0)=((l.getD X []).getD 0 0,(l.getD X []).getD 1 0):=by
    rw [L.out];have:(s.getD k 0)=s[k]:=by simp [List.getD,D]
    rw [this] at y;simp [R8_,List.getD,D,y]
   rw [y] at hx o;have R:X<l.length:=y40_;have xd:(X:Int)<(l.length:Int):=y40_;obtain ⟨al,u,g,halb,m,x6⟩:=x2.out X R;subst g;have P:=H2.out X R;generalize l.getD X []=z at *
   obtain ⟨p,q,rfl⟩:∃ p q,z=[p,q]:=by
    match z,P with
    | [p,q],_=>exact ⟨p,q,rfl⟩
   obtain ⟨Az,cz,rfl,_,I⟩:=x6;obtain ⟨c,g,S,B⟩:=I 0 k40_;subst g;obtain ⟨x9,g,_,C⟩:=I 1 k40_;obtain rfl:=Option.some.inj g;rw [add_zero] at B;rw [show c.add 1=(⟨c.block,c.off+1,none⟩:Addr) by simp [Addr.add]] at C;change w.cell? c=some (.int .i64 p) at B;change w.cell? ⟨c.block,c.off+1,none⟩=some (.int .i64 q) at C;rw [show ([p,q]:List Int).length=2 from rfl] at m;change E.getD k (0,0)=(p,q) at x;have gs:=(h.cell (p:=x4.add k) y47_).trans o;have gl:=(h.cell (p:=al.add X) q47_).trans m;have g0:=(h.cell (p:=c) S).trans B;have g1:=(h.cell (p:=⟨c.block,c.off+1,none⟩) S).trans C;have xb:=d.frozen (k * 2);have xc:=d.frozen (k * 2+1);obtain ⟨F,gc⟩:∃ F,wr.cell? ⟨w.heap.size,k * 2,none⟩=some F:=⟨_,by rw [d.cell];exact C3_ y40_⟩;obtain ⟨xj,xa⟩:∃ F,wr.cell? ⟨w.heap.size,k * 2+1,none⟩=some F:=⟨_,by rw [d.cell];exact C3_ y40_⟩;have ha:=fun W=>Jv8 c cz W;have x0:Hid (edgU E (k * 2)=.int .i64 p):=hid (by rw [Vi1,x]);have x1:Hid (edgU E (k * 2+1)=.int .i64 q):=hid (by rw [Vi2,x]);clear d h o m y hx B C x I P;go_wp2
   go_roundw
   case rel =>
    refine ⟨k+1,j41_,y40_,?_,(O.out.setCell (by exact le_refl _) _).setCell (by exact le_refl _) _⟩;rw [show (k+1) * 2=k * 2+1+1 by omega,← Zf0,← Zf0,x0.out,x1.out];exact (r.out.set_ _ _).set_ _ _
   case measure=>simp [intOf];omega
  ·have x5:k=s.length:=by omega
   subst x5;clear d h;have Q:E.length=s.length:=by rw [L.out];simp [R8_]
   have G:=hid Q;clear Q;go_wp2;go_ret;refine ⟨_,rfl,⟨some ⟨w.heap.size,0,none⟩,s.length,by rw [G.out];rfl,⟨by rw [G.out];exact le_refl _,by unfold maxLen;omega,fun e=>by cases e⟩,fun j hj=>?_⟩,O.out⟩;have xe:j<s.length:=by have:=G.out;omega
   refine ⟨⟨w.heap.size,0,none⟩,rfl,r.out.lt,?_,?_⟩
   ·rw [add_g,r.out.cell,C3_ y40_,if_pos y40_,Vi1]
   ·rw [add_g]
    show World.cell? _ ⟨w.heap.size,j * 2+1,none⟩=_;rw [r.out.cell,C3_ y40_,if_pos y40_,Vi2]
open Go.RowKit
theorem Xl2 (zs:List Int) (j:Nat) (x:Int):(ints zs).set j (.int .i64 x)=ints (zs.set j x):=by
 unfold ints;rw [List.map_set]
theorem Yq0 {A n:Nat} {cls most:Nat→Nat} {P:Nat→Bool} {x:Nat} (hc:cls x<A) (hx:x<n) (hp:P x=false):partR A n cls most (insP P x)=partR A n cls most P+if clsN n cls P (cls x)<most (cls x) then 1 else 0:=by
 refine Zr3 (b:=cls x) hc (fun c hne=>?_) ?_
 ·exact k27_
 ·show min _ _=min _ _+_
  rw [S7_ hx hp,if_pos rfl];split<;>omega
theorem Xl3 {n:Nat} {s:List Int} (h:InN n s) {k:Nat} (d:k<s.length):memP (s.take (k+1))=insP (memP (s.take k)) (s.getD k 0).toNat∧memP (s.take k) (s.getD k 0).toNat=false:=by
 have o:=h.2 _ (Q7_ 0 d);have e:s.getD k 0=s[k]:=by simp [List.getD,d]
 constructor
 ·funext i
  rw [Bool.eq_iff_iff,memP_iff,List.take_succ_eq_append_getElem d,List.mem_append,List.mem_singleton];unfold insP;rw [Bool.or_eq_true,beq_iff_eq,memP_iff,← e];constructor
  ·rintro (c | c)
   ·exact .inr c
   ·left;omega
  ·rintro (c | c)
   ·right;omega
   ·exact .inl c
 ·rw [← Bool.not_eq_true,memP_iff,show (((s.getD k 0).toNat:Nat):Int)=s.getD k 0 by omega]
  intro m;obtain ⟨j,f,g⟩:=List.mem_iff_getElem.1 m;rw [List.length_take] at f;rw [List.getElem_take,e] at g;have:=List.pairwise_iff_getElem.1 h.1.1 j k y40_ d y40_;omega
def roomL (A n:Nat) (cls most:Nat→Nat) (P:Nat→Bool):List Int:=(List.range A).map fun c=>((most c - clsN n cls P c:Nat):Int)
theorem O4_ (A n:Nat) (cls most:Nat→Nat) (P:Nat→Bool):(roomL A n cls most P).length=A:=by simp [roomL]
theorem Yq1 {A n:Nat} {cls most:Nat→Nat} {P:Nat→Bool} {c:Nat} (hc:c<A):(roomL A n cls most P).getD c 0=((most c - clsN n cls P c:Nat):Int):=by simp [roomL,List.getD,hc]
theorem Vq4 {A n:Nat} {cls most:Nat→Nat} {P:Nat→Bool} {x:Nat} (f:x<n) (d:P x=false) (h:¬ clsN n cls P (cls x)<most (cls x)):roomL A n cls most (insP P x)=roomL A n cls most P:=by
 unfold roomL;refine List.map_congr_left fun c _=>?_;rw [S7_ f d];by_cases e:cls x=c
 ·subst e;rw [if_pos rfl];omega
 ·rw [if_neg e,Nat.add_zero]
theorem Xl4 {A n:Nat} {cls most:Nat→Nat} {P:Nat→Bool} {x:Nat} (f:x<n) (d:P x=false) (h:clsN n cls P (cls x)<most (cls x)):(roomL A n cls most P).set (cls x) (((most (cls x) - clsN n cls P (cls x):Nat):Int) - 1)=roomL A n cls most (insP P x):=by
 apply List.ext_getElem
 ·simp [roomL]
 ·intro c g h2
  rw [List.getElem_set];simp only [roomL,List.getElem_map,List.getElem_range];rw [S7_ f d];by_cases e:cls x=c
  ·subst e;rw [if_pos rfl,if_pos rfl];omega
  ·rw [if_neg e,if_neg e,Nat.add_zero]
theorem Xj3 (A n:Nat) (cls most:Nat→Nat):partR A n cls most noneP=0:=k19_
theorem Xl5 {A n:Nat} {cls most:Nat→Nat} (hc:∀ i,i<n→cls i<A) (P:Nat→Bool):partR A n cls most P≤n:=Nat.le_trans ((Yg7 hc).le_cnt P) (A8_ P n)
theorem Zs3 (vc y sv:Value) (cl d s:List Int) (n A:Nat) (w:World) (hc:Row w w.heap.size vc cl) (hm:Row w w.heap.size y d) (hr:Row w w.heap.size sv s) (O:InN n s) (h1:cl.length=n) (h2:d.length=A) (h3:∀ i,i<n→0≤cl.getD i 0∧cl.getD i 0<(A:Int)) (K:∀ i,i<A→0≤d.getD i 0∧d.getD i 0<65) (hn:n≤64) (hA:A≤64) :
  Calls Tryz.prog 75 #[vc,y,sv] w (Tells w (partR A n (fun i=>(cl.getD i 0).toNat) (fun c=>(d.getD c 0).toNat) (memP s):Nat)):=by
 obtain ⟨cls,R⟩:∃ cls:Nat→Nat,cls=fun i=>(cl.getD i 0).toNat:=⟨_,rfl⟩;obtain ⟨most,G⟩:∃ most:Nat→Nat,most=fun c=>(d.getD c 0).toNat:=⟨_,rfl⟩;rw [← R,← G];have x2:Hid (∀ i,i<n→cl.getD i 0=(cls i:Int)∧cls i<A):=hid fun i T=>by have:=h3 i T;rw [R];show cl.getD i 0=(((cl.getD i 0).toNat:Nat):Int)∧(cl.getD i 0).toNat<A;omega
 have x1:=hid (L.clone_any y d w hm y40_);have x6:d=roomL A n cls most noneP:=by
  apply List.ext_getElem
  ·rw [O4_,h2]
  ·intro c a b
   have x8:c<A:=y40_;have:=K c x8;have e1:d.getD c 0=d[c]:=by simp [List.getD,a]
   have e2:(roomL A n cls most noneP).getD c 0=(roomL A n cls most noneP)[c]:=by simp [List.getD,b]
   rw [← e1,← e2,Yq1 x8,G];unfold clsN;rw [show (fun i=>noneP i && cls i==c)=noneP from by funext i;simp [noneP],F9_];show d.getD c 0=(((d.getD c 0).toNat - 0:Nat):Int);omega
 have xc:=hid x6;have HS:=hid O;have xg:Hid (∀ c,c<A→most c≤64):=hid fun c hc=>by have:=K c hc;rw [G];show (d.getD c 0).toNat≤64;omega
 have xz:s.length≤n:=by rw [Y9_ O];exact A8_ _ _
 have xy:(s.length:Int)≤64:=y40_;have xa:∀ P,partR A n cls most P≤64:=fun P=>Nat.le_trans (Xl5 (fun i T=>(x2.out i T).2) P) hn;have xh:=hid xa;have xq:=hid h2;obtain ⟨Ac,cc,rfl,_,x9⟩:=hc;obtain ⟨Am,cm,rfl,_⟩:=hm;obtain ⟨As,cs,rfl,_,xb⟩:=hr;have xf:=hid x9;have xi:=hid xb;have xw:(cl.length:Int)≤64:=y40_;have x3:=hid h1;clear x9 xb h3 K R G xa O x6 h1 h2
 go_enter Tryz.func75,Tryz.ntmps75
 go_wp2_with fail
 refine (x1.out).mono ?_;rintro e w1 ⟨u,rfl,h,x7⟩;rw [xc.out,O4_] at h;have j:=hid h;have x0:=hid x7;clear h x7 x1;go_wp2
 go_loopw [7,15] (fun y Z wr=>∃ k:Nat,Z=.int .i64 k∧k≤s.length∧y=.int .i64 (partR A n cls most (memP (s.take k)):Nat)∧wr.ownsRow w.heap.size 3 1 u A (ints (roomL A n cls most (memP (s.take k))))∧Below w.heap.size w wr) (fun _ Z _=>s.length - (intOf Z).toNat)
 case atStart=>exact ⟨0,rfl,Nat.zero_le _,by rw [List.take_zero,Za0,Xj3];rfl,by rw [List.take_zero,Za0];exact j.out,x0.out⟩
 case round =>
  obtain ⟨k,rfl,hk,rfl,h,v⟩:=hrel;have Hbr:=hid v;clear j x0;by_cases U:k<s.length
  ·have xx:(k:Int)<(s.length:Int):=by omega
   obtain ⟨F,m⟩:=Xl3 HS.out U;have hx:=HS.out.2 _ (Q7_ 0 U);obtain ⟨X,hX⟩:∃ X:Nat,s.getD k 0=(X:Int):=⟨(s.getD k 0).toNat,y40_⟩;obtain ⟨xj,xk,hasb,S⟩:=xi.out k U;subst xk;rw [hX] at hx S F m;rw [show ((X:Int)).toNat=X from rfl] at F m;have E:X<n:=y40_;obtain ⟨ac,xl,xn,Q⟩:=xf.out X (by have:=x3.out;omega);subst xl;obtain ⟨hC,B⟩:=x2.out X E;rw [hC] at Q;have xv:(X:Int)<(cl.length:Int):=by have:=x3.out;omega
   have xr:(cls X:Int)<(A:Int):=y40_;obtain ⟨g,cu,hu,xo⟩:=K9_ h y40_;subst hu;have gs:=(v.cell (p:=xj.add k) y47_).trans S;have gc:=(v.cell (p:=ac.add X) (by rw [Z2_];exact xn)).trans Q;have gr:wr.cell? ⟨g,cls X,none⟩=some (.int .i64 ((most (cls X) - clsN n cls (memP (s.take k)) (cls X):Nat):Int)):=by
    rw [h.cellAt (cls X) y40_];have:(cls X)<(roomL A n cls most (memP (s.take k))).length:=by rw [O4_];exact B
    rw [show (ints (roomL A n cls most (memP (s.take k))))[cls X]?=some (.int .i64 ((roomL A n cls most (memP (s.take k))).getD (cls X) 0)) by simp [ints,List.getD,this],Yq1 B]
   have gf:=h.frozenAt (cls X);have W:=Yq0 (cls:=cls) (most:=most) B E m;have Y:=Xl4 (A:=A) (cls:=cls) (most:=most) E m;have V:=Vq4 (A:=A) (cls:=cls) (most:=most) E m;have xt:=xg.out _ B;have xm:=xh.out (memP (s.take k));rw [← F] at W Y V;have o:=hid W;have J:=hid Y;have H:=hid V;have j:=hid h;generalize clsN n cls (memP (s.take k)) (cls X)=q at *
   generalize most (cls X)=M at *
   generalize cls X=C at *
   clear W Y V F m h v S Q hX hx hC;obtain ⟨r,x5⟩:∃ r,partR A n cls most (memP (s.take k))=r:=⟨_,rfl⟩;rw [x5] at o xm ⊢;have xu:(r:Int)≤64:=y40_;clear x5;by_cases x:q<M
   ·have N:(0:Int)<((M - q:Nat):Int):=by omega
    have xs:((M - q:Nat):Int)≤64:=y40_;have I:Hid (partR A n cls most (memP (s.take (k+1)))=r+1):=hid (by rw [o.out,if_pos x]);have z:=hid (J.out x);generalize ((M - q:Nat):Int)=D at *
    have hw:IntKind.i64.wrap (D - 1)=D - 1:=y41_;have x4:=hid (j.out.stored C (.int .i64 (D - 1)));rw [Xl2,z.out] at x4;have xe:=hid (Hbr.out.setCell (p:=⟨g,C,none⟩) xo (.int .i64 (D - 1)));clear j Hbr J H o z x;go_wp2
    go_roundw
    case rel=>exact ⟨k+1,j41_,y40_,by rw [I.out];go_num,x4.out.1,xe.out⟩
    exact mz_
   ·have N:(M - q:Nat)=0:=by omega
    have I:Hid (partR A n cls most (memP (s.take (k+1)))=r):=hid (by rw [o.out,if_neg x,Nat.add_zero]);have z:=hid (H.out x);rw [N] at gr;change wr.cell? ⟨g,C,none⟩=some (.int .i64 0) at gr;clear J H o N;go_wp2
    go_roundw
    case rel=>exact ⟨k+1,j41_,y40_,by rw [I.out],by rw [z.out];exact j.out,Hbr.out⟩
    exact mz_
  ·have xp:k=s.length:=by omega
   subst xp;have xd:Hid (s.take s.length=s):=hid (List.take_length);rw [xd.out];clear h v;exact y15_
def betB (f n x:Int):Bool:=decide (f≤x) && decide (x<f+n)
def betL (s:List Int) (f n:Int):List Int:=(s.filter (betB f n)).map fun x=>x - f
theorem Yq2 {s:List Int} {f n:Int} {k:Nat} (c:k<s.length):betL (s.take (k+1)) f n=betL (s.take k) f n ++ if betB f n (s.getD k 0)=true then [s.getD k 0 - f] else []:=by
 unfold betL;rw [List.take_succ_eq_append_getElem c,List.filter_append,List.map_append,show s[k]=s.getD k 0 by simp [List.getD,c]];congr 1;generalize s.getD k 0=x;by_cases h:betB f n x=true
 ·simp [h]
 ·simp [h]
theorem Zf1 (s:List Int) (f n:Int):(betL s f n).length≤s.length:=by
 unfold betL;rw [List.length_map];exact List.length_filter_le _ _
theorem Yi7 (e:Value) (s:List Int) (f n:Int) (w:World) (g:Row w w.heap.size e s) (hs:∀ k,k<s.length→0≤s.getD k 0∧s.getD k 0≤64) (m:0≤f∧f≤1000) (o:0≤n∧n≤1000) (r:s.length≤64) :
  Calls Tryz.prog 107 #[e,.int .i64 f,.int .i64 n] w (Gives w (betL s f n)):=by
 obtain ⟨j,cs,rfl,_,d⟩:=g;have Hsk:=hid d;have Hs:=hid hs;have q:(s.length:Int)≤64:=y40_;have u:IntKind.i64.wrap (f+n)=f+n:=y41_;have hown0:w.ownsRow w.heap.size 3 1 (.slice none 0 0) ([]:List Int).length (ints []):=World.ownsRow_nil _ _ _ _;clear d hs
 go_enter Tryz.func107,Tryz.ntmps107
 go_wp2
 go_loopw [7,12] (fun h c wr=>∃ k:Nat,c=.int .i64 k∧k≤s.length∧wr.ownsRow w.heap.size 3 1 h (betL (s.take k) f n).length (ints (betL (s.take k) f n))∧Below w.heap.size w wr) (fun _ c _=>s.length - (intOf c).toNat)
 case atStart=>exact ⟨0,rfl,Nat.zero_le _,hown0,Below.refl _ _⟩
 case round =>
  exact x1_
open Go
theorem Zl7 {m:Mat} {s:List Int} (h:chk m=0) (f:m.t=1) (hs:InN (nN m) s):R8_ m.l s=castE (edgP (nN m) (edgOf m) (memP s)):=by
 obtain ⟨_,j,h2⟩:=O3_ h f;have o:=Y0_ h;have e:R8_ m.l s=(pickN (nN m) (memP s)).map fun i=>((m.l.getD i []).getD 0 0,(m.l.getD i []).getD 1 0):=Yr7 hs fun i=>((m.l.getD i []).getD 0 0,(m.l.getD i []).getD 1 0);rw [e];unfold castE edgP;rw [List.map_map];refine List.map_congr_left fun i d=>?_;have k:=(mem_pick.1 d).1;obtain ⟨g,c⟩:=h2 i y40_;have a:=c 0 y40_;have b:=c 1 y40_;show _=((((m.l.getD i []).getD 0 0).toNat:Int),(((m.l.getD i []).getD 1 0).toNat:Int));rw [Int.toNat_of_nonneg a.1,Int.toNat_of_nonneg b.1]
theorem Yq3 {m:Mat} {s:List Int} (h:chk m=0) (e:m.t=1):Lies m.a.toNat (edgP (nN m) (edgOf m) (memP s)):=by
 obtain ⟨_,f,h2⟩:=O3_ h e;have j:=Y0_ h;intro c hc;obtain ⟨i,d,rfl⟩:=List.mem_map.1 hc;have g:=(mem_pick.1 d).1;exact j11_
theorem T1_ (n:Nat) (P:Nat→Bool):(pickN n P).length≤n:=A8_ P n
theorem T2_ {n:Nat} {l:List (List Int)} {s:List Int} (hs:InN n s):F4_ l s=(pickN n (memP s)).map fun i=>l.getD i []:=Yr7 hs fun i=>l.getD i []
theorem mayK (r:Int) (a:List (List Int)):K.mayM r a=mayM r a:=rfl
theorem elimK (p r:Int) (a:List (List Int)):L.elimB p r a=elimB p r a:=rfl
theorem Zl8 {n:Nat} {l:List (List Int)} {P:Nat→Bool} (hl:l.length=n) {z:List Int} (d:z∈(pickN n P).map fun i=>l.getD i []):z∈l:=by
 obtain ⟨i,c,rfl⟩:=List.mem_map.1 d;exact Q7_ [] (by have:=(mem_pick.1 c).1;omega)
theorem Xj4 {r:Int} {n:Nat} {l:List (List Int)} {P:Nat→Bool} (h:mayM r l=true) (hl:l.length=n):mayM r ((pickN n P).map fun i=>l.getD i [])=true:=by
 unfold mayM at h ⊢;simp only [Bool.and_eq_true,decide_eq_true_iff,List.all_eq_true] at h ⊢;exact x25_
theorem Zf2 {p r:Int} {n:Nat} {l:List (List Int)} {P:Nat→Bool} (h:elimB p r l=true) (hl:l.length=n):elimB p r ((pickN n P).map fun i=>l.getD i [])=true:=by
 unfold elimB at h ⊢;simp only [Bool.and_eq_true,decide_eq_true_iff,Bool.not_eq_true',List.any_eq_false] at h ⊢;exact x25_
theorem Vq5 {n R:Nat} {l:List (List Int)} {P:Nat→Bool} {adj:List (List Int)} (z:adj=(pickN n P).map fun i=>l.getD i []) {k:Nat} (h:K.Big R adj k):covR n R (fun i r=>(r:Int)∈l.getD i []) P=k:=by
 have E:adj.length=(pickN n P).length:=by rw [z,List.length_map]
 have x:∀ j,j<adj.length→adj.getD j []=l.getD ((pickN n P).getD j 0) []∧(pickN n P).getD j 0∈pickN n P:=fun j d=>by
  rw [E] at d;refine ⟨?_,Q7_ 0 d⟩;rw [z];simp [List.getD,d]
 have L:∀ i j,i<adj.length→j<adj.length→(pickN n P).getD i 0=(pickN n P).getD j 0→i=j:=fun i j m d e=>by
  rw [E] at m d;have g:=List.pairwise_iff_getElem.1 (Zd8 n P);rw [show (pickN n P).getD i 0=(pickN n P)[i] by simp [List.getD,m],show (pickN n P).getD j 0=(pickN n P)[j] by simp [List.getD,d]] at e;rcases Nat.lt_trichotomy i j with c | c | c
  ·have:=g i j m d c;omega
  ·exact c
  ·have:=g j i d m c;omega
 obtain ⟨⟨T,hM,U⟩,A,B,I,M⟩:=h;refine Nat.le_antisymm ?_ ?_
 ·refine L7_ ⟨fun i=>(List.range adj.length).any fun j=>A j && (pickN n P).getD j 0==i,B,fun i r m g v=>?_,?_⟩
  ·obtain ⟨j,d,s⟩:=List.mem_iff_getElem.1 (mem_pick.2 ⟨m,g⟩)
   have D:j<adj.length:=y40_;have e:(pickN n P).getD j 0=i:=by rw [show (pickN n P).getD j 0=(pickN n P)[j] by simp [List.getD,d],s]
   rcases I j r (show (r:Int)∈adj.getD j [] by rw [(x j D).1,e];exact v) with c | c
   ·left
    rw [List.any_eq_true];exact ⟨j,List.mem_range.2 D,by rw [c,e];simp⟩
   ·exact .inr c
  ·have H:∀ i,∃ j,((List.range adj.length).any fun j=>A j && (pickN n P).getD j 0==i)=true→j<adj.length∧A j=true∧(pickN n P).getD j 0=i:=fun i=>by
    by_cases hb:((List.range adj.length).any fun j=>A j && (pickN n P).getD j 0==i)=true
    ·obtain ⟨j,d,s⟩:=List.any_eq_true.1 hb
     rw [Bool.and_eq_true,beq_iff_eq] at s;exact ⟨j,fun _=>⟨List.mem_range.1 d,s.1,s.2⟩⟩
    ·exact ⟨0,fun G=>absurd G hb⟩
   obtain ⟨f,u⟩:=Classical.axiomOfChoice H;have:=K.cntP_inj (n:=n) (R:=adj.length) (p:=fun i=>(List.range adj.length).any fun j=>A j && (pickN n P).getD j 0==i) (q:=A) f (fun i _ g=>⟨(u i g).1,(u i g).2.1⟩) (fun i j _ _ g N e=>by rw [← (u i g).2.2,e];exact (u j N).2.2);exact Nat.le_trans (Nat.add_le_add_right this _) M
 ·obtain ⟨o,w,hc,S⟩:=H5_ n R (fun i r=>(r:Int)∈l.getD i []) P
  have J:K.Cov adj (fun j=>o ((pickN n P).getD j 0)) w:=fun j r v=>by
   have d:=K.goes_lt v;obtain ⟨F,y⟩:=x j d;have C:(r:Int)∈adj.getD j []:=v;rw [F] at C;exact hc _ r (mem_pick.1 y).1 (mem_pick.1 y).2 C
  have O:=K.mat_le_cov hM J;have h2:=K.cntP_inj (n:=adj.length) (R:=n) (p:=fun j=>o ((pickN n P).getD j 0)) (q:=o) (fun j=>(pickN n P).getD j 0) (fun j d g=>⟨(mem_pick.1 (x j d).2).1,g⟩) (fun i j m d _ _ e=>L i j m d e);have h3:K.cntP n o=cnt o n:=rfl;have Q:K.cntP R w=cnt w R:=rfl;omega
theorem Vi3 {p a:Int} {n:Nat} {l:List (List Int)} {P:Nat→Bool} {cols:List (List Int)} (g:cols=(pickN n P).map fun i=>l.getD i []) (h:L.elimB p a cols=true):L.rankI p a cols=(linR p a.toNat n (fun i=>L.vec (l.getD i [])) P:Nat):=by
 obtain ⟨c,R,f,_,_,hc⟩:=L.elimB_in h;unfold L.rankI;rw [if_pos h,f,Int.toNat_natCast];have e:=congrArg List.length (L.linesI_lines c hc).pl;rw [List.length_map] at e;have d:=L.rk_cols (R:=R) (L.fld_ok c) cols;rw [e,← d];unfold linR vecP;rw [g,List.map_map];rfl
theorem M1_ {n:Nat} {s:List Int} (h:InN n s) {k:Nat} (c:k<s.length):0≤s.getD k 0∧s.getD k 0<(n:Int):=h.2 _ (Q7_ 0 c)
theorem X0_ {n:Nat} {s:List Int} (h:InN n s):s.length≤n:=by rw [Y9_ h];exact A8_ _ _
def Zl9 (E:Nat→Addr) (k:Nat):Prop:=∀ (m:Mat) (v sv:Value) (s:List Int) (w:World),MatV w w.heap.size v m→Sml m→chk m=0→dp 4 m≤k→Row w w.heap.size sv s→InN (nN m) s→Env E w→Calls Tryz.prog 49 #[v,sv] w (Tells w (rkP k m (memP s):Nat))
theorem Jv9 (E:Nat→Addr) (k:Nat) (m:Mat) (v H:Value) (s:List Int) (w:World) (x:MatV w w.heap.size v m) (_hs:Sml m) (hc:chk m=0) (u:Row w w.heap.size H s) (c:InN (nN m) s) (G:Env E w) (ht:m.t=0):Calls Tryz.prog 49 #[v,H] w (Tells w (rkP (k+1) m (memP s):Nat)):=by
 rw [rkP_0 ht,← Y9_ c];have I:=hid c;have S:=X0_ c;have P:=(Y0_ hc).2;have R:(s.length:Int)≤64:=y40_;have Q:s.length≤1048576:=y40_;obtain ⟨U,T,rfl,r,q⟩:=x.open;obtain ⟨g,cl,rfl,_⟩:=id r;obtain ⟨d,o,rfl,_⟩:=id q;obtain ⟨K,cs,rfl,_⟩:=id u;have Hb0:=hid (Z1_ w m (.slice g m.l.length cl) (.slice d m.i.length o));have h:=hid (Z4_ w m (.slice g m.l.length cl) (.slice d m.i.length o));have C:=hid (u.up Hb0.out);have B:=hid (r.up Hb0.out);have z:=hid (q.up Hb0.out);have D:=hid (x.up Hb0.out);have y:=hid (G.up Hb0.out);unfold boxed at *
 have p:=h.out.cell;obtain ⟨j,hW0⟩:∃ j,j=w.alloc (.cells #[.int .i64 m.t,.int .i64 m.n,.int .i64 m.a,.int .i64 m.b,.slice g m.l.length cl,.slice d m.i.length o] 25):=⟨_,rfl⟩;have HW0:=hid hW0;have O:w.heap.size<j.heap.size:=z42_;rw [← hW0] at Hb0 C B z D y p h;have L:(m.t==0)=true:=q45_;clear ht;have M:=p 2;have ha:=chk_a hc;clear I C B z D y x u G p h r q c;by_cases N:m.a≤(s.length:Int)
 ·have e:min m.a.toNat s.length=m.a.toNat:=by omega
  have F:((m.a.toNat:Nat):Int)=m.a:=y40_;have J:min m.a (s.length:Int)=m.a:=y40_;rw [e,F];clear e F;exact j19_
 ·have e:min m.a.toNat s.length=s.length:=by omega
  have J:min m.a (s.length:Int)=(s.length:Int):=y40_;rw [e];clear e;exact j19_
theorem Jj0 (E:Nat→Addr) (k:Nat) (m:Mat) (v Z:Value) (s:List Int) (w:World) (N:MatV w w.heap.size v m) (_hs:Sml m) (hc:chk m=0) (L:Row w w.heap.size Z s) (r:InN (nN m) s) (P:Env E w) (ht:m.t=1):Calls Tryz.prog 49 #[v,Z] w (Tells w (rkP (k+1) m (memP s):Nat)):=by
 rw [rkP_1 ht];have V:=O3_ hc ht;have ha:=chk_a hc;have T:=Zl7 hc ht r;have K:=Yq3 (s:=s) hc ht;have xb:=Y0_ hc;have h2:∀ i,i<m.l.length→(m.l.getD i []).length=2:=fun i hi=>by have:=(V.2.2 i hi).1;omega
 have Y:∀ j,j<s.length→0≤s.getD j 0∧s.getD j 0<(m.l.length:Int):=fun j hj=>by have:=M1_ r hj;omega
 have xa:m.l.length≤1000:=y40_;have U:(edgP (nN m) (edgOf m) (memP s)).length≤4096:=by unfold edgP;rw [List.length_map];have:=T1_ (nN m) (memP s);omega
 obtain ⟨A,q⟩:∃ A:Nat,m.a=(A:Int):=⟨m.a.toNat,y40_⟩;rw [q,Int.toNat_natCast] at K;have x8:1≤A:=y40_;have x9:A≤64:=y40_;have x6:Hid ((O1_ A (nN m) (edgOf m) (memP s):Nat)=rankN A (edgP (nN m) (edgOf m) (memP s))):=hid (by unfold O1_ rankN;have:=Zc2 A (edgP (nN m) (edgOf m) (memP s));omega);rw [q,Int.toNat_natCast];have HS:=hid r;have xf:=X0_ r;have xc:=(Y0_ hc).2;have xe:(s.length:Int)≤64:=y40_;have xd:s.length≤1048576:=y40_;obtain ⟨lv,iv,rfl,J,I⟩:=N.open;obtain ⟨o,cl,rfl,_⟩:=id J;obtain ⟨D,H,rfl,_⟩:=id I;obtain ⟨As,cs,rfl,_⟩:=id L;have g:=hid (Z1_ w m (.slice o m.l.length cl) (.slice D m.i.length H));have F:=hid (Z4_ w m (.slice o m.l.length cl) (.slice D m.i.length H));have z:=hid (L.up g.out);have y:=hid (J.up g.out);have x:=hid (I.up g.out);have B:=hid (N.up g.out);have u:=hid (P.up g.out);unfold boxed at *
 have C:=F.out.cell;obtain ⟨c,hW0⟩:∃ c,c=w.alloc (.cells #[.int .i64 m.t,.int .i64 m.n,.int .i64 m.a,.int .i64 m.b,.slice o m.l.length cl,.slice D m.i.length H] 25):=⟨_,rfl⟩;have x0:=hid hW0;have X:w.heap.size<c.heap.size:=z42_;rw [← hW0] at g z y x B u C F;have d0:(m.t==0)=false:=x41_;have d1:(m.t==1)=true:=q45_;clear ht;have O:Hid (∀ W,Below c.drew.heap.size c.drew W→W.cell? ⟨w.heap.size,2,none⟩=some (.int .i64 m.a)∧W.cell? ⟨w.heap.size,4,none⟩=some (.slice o m.l.length cl)):=hid fun W Q=>⟨(Q.cell (p:=⟨w.heap.size,2,none⟩) X).trans (C 2),(Q.cell (p:=⟨w.heap.size,4,none⟩) X).trans (C 4)⟩;have d:Hid (Below c.drew.heap.size c.drew c.drew):=hid (Below.refl _ _);have h:=(Below.refl c.heap.size c).drew;replace z:=hid (z.out.up h);replace y:=hid (y.out.up h);replace x:=hid (x.out.up h);replace B:=hid (B.out.up h);replace u:=hid (u.out.up h);clear C F h;have x2:=hid T;have x4:=hid K;have H2:=hid h2;have x7:=hid Y;have x3:=hid U;rw [q] at O;have HA:=hid q;generalize edgP (nN m) (edgOf m) (memP s)=ns at *
 generalize O1_ A (nN m) (edgOf m) (memP s)=G at *
 clear N L P J I r q V ha T K xb h2 Y U x B u
 go_enter Tryz.func49,Tryz.ntmps49
 go_wp2;rw [← x0.out];clear hW0;rw [HA.out]
 go_region_held3 (fun W=>W.cell? ⟨w.heap.size,2,none⟩=some (.int .i64 (A:Int))∧W.cell? ⟨w.heap.size,4,none⟩=some (.slice o m.l.length cl))
  (exact O.out _ d.out)
  (first
  | (go_at_call 74;refine (Xl1 _ _ m.l s _ y.out z.out x7.out H2.out xa y40_).mono ?_;rintro e w1 ⟨v1,rfl,M,R⟩;rw [x2.out] at M;replace d:=hid (Z0_ d.out (le_refl _) R);have x5:=hid M;clear M R)
  | (go_at_call 73;refine (Xh3 A _ ns _ x5.out x8 x9 x3.out x4.out).mono ?_;rintro e w2 ⟨rfl,S⟩;replace d:=hid (Z0_ d.out (le_refl _) S);clear S))
 all_goals
  have x1:=hid (Z0_ g.out.drew (le_refl _) d.out);clear d;go_simp;go_wp2;go_ret;exact ⟨by rw [← x6.out];rfl,x1.out⟩
theorem Jj1 (E:Nat→Addr) (k:Nat) (m:Mat) (v sv:Value) (s:List Int) (w:World) (N:MatV w w.heap.size v m) (_hs:Sml m) (hc:chk m=0) (M:Row w w.heap.size sv s) (D:InN (nN m) s) (V:Env E w) (ht:m.t=2):Calls Tryz.prog 49 #[v,sv] w (Tells w (rkP (k+1) m (memP s):Nat)):=by
 rw [rkP_2 ht];obtain ⟨p1,p2,p3,p4,p5⟩:=Za2 hc ht;have ha:=chk_a hc;have xe:=Y0_ hc;obtain ⟨A,U⟩:∃ A:Nat,m.a=(A:Int):=⟨m.a.toNat,y40_⟩;rw [U,Int.toNat_natCast];have HS:=hid D;have xo:=X0_ D;have xd:=(Y0_ hc).2;have xn:(s.length:Int)≤64:=y40_;have xm:s.length≤1048576:=y40_;obtain ⟨lv,iv,rfl,K,J⟩:=N.open;obtain ⟨y,cl,rfl,_⟩:=id K;obtain ⟨x,B,rfl,_⟩:=id J;obtain ⟨As,cs,rfl,_⟩:=id M;have h:=hid (Z1_ w m (.slice y m.l.length cl) (.slice x m.i.length B));have z:=hid (Z4_ w m (.slice y m.l.length cl) (.slice x m.i.length B));have u:=hid (M.up h.out);have Q:=hid (K.up h.out);have P:=hid (J.up h.out);have R:=hid (N.up h.out);have O:=hid (V.up h.out);unfold boxed at *
 have C:=z.out.cell;obtain ⟨g,hW0⟩:∃ g,g=w.alloc (.cells #[.int .i64 m.t,.int .i64 m.n,.int .i64 m.a,.int .i64 m.b,.slice y m.l.length cl,.slice x m.i.length B] 25):=⟨_,rfl⟩;have x5:=hid hW0;have xc:w.heap.size<g.heap.size:=z42_;rw [← hW0] at h u Q P R O C z;have d0:(m.t==0)=false:=x41_;have d1:(m.t==1)=false:=x41_;have d2:(m.t==2)=true:=q45_;clear ht;have o:Hid ((row m 0).length=nN m∧(row m 1).length=A∧(∀ i,i<nN m→0≤(row m 0).getD i 0∧(row m 0).getD i 0<(A:Int))∧(∀ i,i<A→0≤(row m 1).getD i 0∧(row m 1).getD i 0<65)∧A≤64):=hid ⟨y40_,y40_,fun i hi=>by have:=p4 i y40_;omega,fun i hi=>p5 i y40_,y40_⟩;have xb:m.l.length=2:=p1;obtain ⟨xf,xh,he,_,L⟩:=K;injection he with he1 he2 he3;subst he1 he3;obtain ⟨d,q,x9,X,H,x1⟩:=L 0 y40_;subst x9;obtain ⟨xg,r,xa,_,I,x2⟩:=L 1 y40_;obtain rfl:=Option.some.inj xa;rw [add_zero] at H;rw [show d.add 1=(⟨d.block,d.off+1,none⟩:Addr) by simp [Addr.add]] at I;have x3:Hid (Row g.drew g.drew.heap.size q (row m 0)):=hid ((x1.up h.out).up (Below.refl _ _).drew);have x4:Hid (Row g.drew g.drew.heap.size r (row m 1)):=hid ((x2.up h.out).up (Below.refl _ _).drew);have S:=(h.out.cell (p:=d) X).trans H;have T:=(h.out.cell (p:=⟨d.block,d.off+1,none⟩) X).trans I;have Y:d.block<g.heap.size:=y40_;have xi:(0:Int)<(m.l.length:Int):=y40_;have xj:(1:Int)<(m.l.length:Int):=y40_;have xk:0<m.l.length:=y40_;have xl:1<m.l.length:=y40_;have x0:=(Below.refl g.heap.size g).drew;replace u:=hid (u.out.up x0);have K1:Hid (∀ W,Below g.drew.heap.size g.drew W→W.cell? ⟨w.heap.size,4,none⟩=some (.slice (some d) m.l.length cl)∧W.cell? d=some q∧W.cell? ⟨d.block,d.off+1,none⟩=some r):=hid fun W F=>⟨(F.cell (p:=⟨w.heap.size,4,none⟩) xc).trans (C 4),(F.cell (p:=d) Y).trans S,(F.cell (p:=⟨d.block,d.off+1,none⟩) Y).trans T⟩;have j:Hid (Below g.drew.heap.size g.drew g.drew):=hid (Below.refl _ _);have x8:Hid (partR A (nN m) (clsOf m) (Yj3 m) (memP s)=partR A (nN m) (fun i=>((row m 0).getD i 0).toNat) (fun c=>((row m 1).getD c 0).toNat) (memP s)):=hid rfl;have x7:=hid (fun (W:World) (q0:Row W W.heap.size q (row m 0)) (q1:Row W W.heap.size r (row m 1)) (q2:Row W W.heap.size (.slice As s.length cs) s)=>Zs3 q r _ (row m 0) (row m 1) s (nN m) A W q0 q1 q2 HS.out o.out.1 o.out.2.1 o.out.2.2.1 o.out.2.2.2.1 xd o.out.2.2.2.2);clear N M V J D U p1 p2 p3 p4 p5 ha xe C z x0 S T H I x1 x2 L xb he2 Q P R O;generalize partR A (nN m) (clsOf m) (Yj3 m) (memP s)=G at *
 generalize partR A (nN m) (fun i=>((row m 0).getD i 0).toNat) (fun c=>((row m 1).getD c 0).toNat) (memP s)=G2 at *
 go_enter Tryz.func49,Tryz.ntmps49
 go_wp2;rw [← x5.out];clear hW0
 go_region_held3 (fun W=>W.cell? ⟨w.heap.size,4,none⟩=some (.slice (some d) m.l.length cl)∧W.cell? d=some q∧W.cell? ⟨d.block,d.off+1,none⟩=some r)
  (exact K1.out _ j.out)
  (first
  | (go_at_call 75;refine (x7.out _ x3.out x4.out u.out).mono ?_;rintro e w2 ⟨rfl,Z⟩;replace j:=hid (Z0_ j.out (le_refl _) Z);clear Z))
 all_goals
  have x6:=hid (Z0_ h.out.drew (le_refl _) j.out);clear j;go_simp;go_wp2;go_ret;exact ⟨by rw [x8.out];rfl,x6.out⟩
theorem Jj2 (E:Nat→Addr) (k:Nat) (m:Mat) (v sv:Value) (s:List Int) (w:World) (Q:MatV w w.heap.size v m) (_hs:Sml m) (hc:chk m=0) (O:Row w w.heap.size sv s) (u:InN (nN m) s) (T:Env E w) (ht:m.t=3):Calls Tryz.prog 49 #[v,sv] w (Tells w (rkP (k+1) m (memP s):Nat)):=by
 rw [rkP_3 ht];obtain ⟨p1,p2⟩:=Zd9 hc ht;have ha:=chk_a hc;have x8:=Y0_ hc;have x0:∀ j,j<s.length→0≤s.getD j 0∧s.getD j 0<(m.l.length:Int):=fun j hj=>by have:=M1_ u hj;omega
 have x7:m.l.length≤1000:=y40_;obtain ⟨adj,F⟩:∃ adj,adj=(pickN (nN m) (memP s)).map fun i=>m.l.getD i []:=⟨_,rfl⟩;have x4:Hid (F4_ m.l s=adj):=hid (by rw [F];exact T2_ u);have R:Hid (K.mayM m.a adj=true):=hid (by rw [mayK,F];exact Xj4 p2 y40_);have x3:Hid (∀ (H:List Int) (q:Nat),((K.mayM m.a adj=false∧H=[]∧q=0)∨(K.mayM m.a adj=true∧∃ hs os,K.Great m.a.toNat adj hs os adj.length∧H=(List.range adj.length).map hs∧q=K.msize adj hs))→covR (nN m) m.a.toNat (Yr9 m) (memP s)=q):=hid fun H q h=>by
  rcases h with ⟨S,_⟩ | ⟨_,xa,xe,hg,_,e2⟩
  ·rw [R.out] at S;cases S
  ·rw [e2];exact Vq5 F (K.great_big hg (K.onR_of_may R.out))
 have HS:=hid u;have xd:=X0_ u;have x9:=(Y0_ hc).2;have xc:(s.length:Int)≤64:=y40_;have xb:s.length≤1048576:=y40_;obtain ⟨lv,iv,rfl,N,M⟩:=Q.open;obtain ⟨r,cl,rfl,_⟩:=id N;obtain ⟨I,L,rfl,_⟩:=id M;obtain ⟨As,cs,rfl,_⟩:=id O;have g:=hid (Z1_ w m (.slice r m.l.length cl) (.slice I m.i.length L));have J:=hid (Z4_ w m (.slice r m.l.length cl) (.slice I m.i.length L));have B:=hid (O.up g.out);have z:=hid (N.up g.out);have y:=hid (M.up g.out);have C:=hid (Q.up g.out);have x:=hid (T.up g.out);unfold boxed at *
 have D:=J.out.cell;obtain ⟨c,hW0⟩:∃ c,c=w.alloc (.cells #[.int .i64 m.t,.int .i64 m.n,.int .i64 m.a,.int .i64 m.b,.slice r m.l.length cl,.slice I m.i.length L] 25):=⟨_,rfl⟩;have x1:=hid hW0;have Z:w.heap.size<c.heap.size:=z42_;rw [← hW0] at g B z y C x D J;have d0:(m.t==0)=false:=x41_;have d1:(m.t==1)=false:=x41_;have d2:(m.t==2)=false:=x41_;have d3:(m.t==3)=true:=q45_;clear ht;have K1:Hid (∀ W,Below c.drew.heap.size c.drew W→W.cell? ⟨w.heap.size,2,none⟩=some (.int .i64 m.a)∧W.cell? ⟨w.heap.size,4,none⟩=some (.slice r m.l.length cl)):=hid fun W U=>⟨(U.cell (p:=⟨w.heap.size,2,none⟩) Z).trans (D 2),(U.cell (p:=⟨w.heap.size,4,none⟩) Z).trans (D 4)⟩;have d:Hid (Below c.drew.heap.size c.drew c.drew):=hid (Below.refl _ _);have o:=(Below.refl c.heap.size c).drew;replace B:=hid (B.out.up o);replace z:=hid (z.out.up o);replace y:=hid (y.out.up o);replace C:=hid (C.out.up o);replace x:=hid (x.out.up o);clear D J o;have x6:=hid x0;generalize covR (nN m) m.a.toNat (Yr9 m) (memP s)=G at *
 clear Q O T N M u p1 p2 ha x8 x0 y C x F
 go_enter Tryz.func49,Tryz.ntmps49
 go_wp2;rw [← x1.out];clear hW0
 go_region_held3 (fun W=>W.cell? ⟨w.heap.size,2,none⟩=some (.int .i64 m.a)∧W.cell? ⟨w.heap.size,4,none⟩=some (.slice r m.l.length cl))
  (exact K1.out _ d.out)
  (first
  | (go_at_call 77;refine (Zl6 _ _ m.l s _ z.out B.out x6.out x7 y40_).mono ?_;rintro e w1 ⟨v1,rfl,P,V⟩;rw [x4.out] at P;replace d:=hid (Z0_ d.out (le_refl _) V);have x5:=hid P;clear P V)
  | (go_at_call 76;refine (K.max_any m.a _ adj _ x5.out).mono ?_;rintro e w2 ⟨v2,H,q,rfl,_,X,Y⟩;replace d:=hid (Z0_ d.out (le_refl _) X);have Hq:Hid (G=q):=hid (x3.out _ q Y);clear Y X))
 all_goals
  have x2:=hid (Z0_ g.out.drew (le_refl _) d.out);clear d;go_simp;go_wp2;go_ret;exact ⟨by rw [Hq.out];rfl,x2.out⟩
theorem Jj3 (E:Nat→Addr) (k:Nat) (m:Mat) (v V:Value) (s:List Int) (w:World) (Q:MatV w w.heap.size v m) (_hs:Sml m) (hc:chk m=0) (O:Row w w.heap.size V s) (u:InN (nN m) s) (R:Env E w) (ht:m.t=4):Calls Tryz.prog 49 #[v,V] w (Tells w (rkP (k+1) m (memP s):Nat)):=by
 rw [rkP_4 ht];obtain ⟨p1,U⟩:=Yi0 hc ht;have x4:=Y0_ hc;have T:∀ j,j<s.length→0≤s.getD j 0∧s.getD j 0<(m.l.length:Int):=fun j hj=>by have:=M1_ u hj;omega
 have x3:m.l.length≤1000:=y40_;obtain ⟨adj,C⟩:∃ adj,adj=(pickN (nN m) (memP s)).map fun i=>m.l.getD i []:=⟨_,rfl⟩;have Z:Hid (F4_ m.l s=adj):=hid (by rw [C];exact T2_ u);have x1:Hid (L.rankI m.b m.a adj=(linR m.b m.a.toNat (nN m) (colOf m) (memP s):Nat)):=hid (Vi3 C (by rw [elimK,C];exact Zf2 U y40_));have HS:=hid u;have x8:=X0_ u;have x5:=(Y0_ hc).2;have x7:(s.length:Int)≤64:=y40_;have x6:s.length≤1048576:=y40_;obtain ⟨lv,iv,rfl,M,K⟩:=Q.open;obtain ⟨q,cl,rfl,_⟩:=id M;obtain ⟨D,H,rfl,_⟩:=id K;obtain ⟨As,cs,rfl,_⟩:=id O;have g:=hid (Z1_ w m (.slice q m.l.length cl) (.slice D m.i.length H));have F:=hid (Z4_ w m (.slice q m.l.length cl) (.slice D m.i.length H));have z:=hid (O.up g.out);have y:=hid (M.up g.out);have x:=hid (K.up g.out);have B:=hid (Q.up g.out);have h:=hid (R.up g.out);unfold boxed at *
 have r:=F.out.cell;obtain ⟨c,hW0⟩:∃ c,c=w.alloc (.cells #[.int .i64 m.t,.int .i64 m.n,.int .i64 m.a,.int .i64 m.b,.slice q m.l.length cl,.slice D m.i.length H] 25):=⟨_,rfl⟩;have X:=hid hW0;have N:w.heap.size<c.heap.size:=z42_;rw [← hW0] at g z y x B h r F;have d0:(m.t==0)=false:=x41_;have d1:(m.t==1)=false:=x41_;have d2:(m.t==2)=false:=x41_;have d3:(m.t==3)=false:=x41_;have d4:(m.t==4)=true:=q45_;clear ht;have K1:Hid (∀ W,Below c.drew.heap.size c.drew W→W.cell? ⟨w.heap.size,2,none⟩=some (.int .i64 m.a)∧W.cell? ⟨w.heap.size,3,none⟩=some (.int .i64 m.b)∧W.cell? ⟨w.heap.size,4,none⟩=some (.slice q m.l.length cl)):=hid fun W I=>⟨(I.cell (p:=⟨w.heap.size,2,none⟩) N).trans (r 2),(I.cell (p:=⟨w.heap.size,3,none⟩) N).trans (r 3),(I.cell (p:=⟨w.heap.size,4,none⟩) N).trans (r 4)⟩;have d:Hid (Below c.drew.heap.size c.drew c.drew):=hid (Below.refl _ _);have o:=(Below.refl c.heap.size c).drew;replace z:=hid (z.out.up o);replace y:=hid (y.out.up o);replace x:=hid (x.out.up o);replace B:=hid (B.out.up o);replace h:=hid (h.out.up o);clear r F o;have x2:=hid T;generalize linR m.b m.a.toNat (nN m) (colOf m) (memP s)=G at *
 clear Q O R M K u p1 U x4 T x B C
 go_enter Tryz.func49,Tryz.ntmps49
 go_wp2;rw [← X.out];clear hW0
 go_region_held3 (fun W=>W.cell? ⟨w.heap.size,2,none⟩=some (.int .i64 m.a)∧W.cell? ⟨w.heap.size,3,none⟩=some (.int .i64 m.b)∧W.cell? ⟨w.heap.size,4,none⟩=some (.slice q m.l.length cl))
  (exact K1.out _ d.out)
  (first
  | (go_at_call 77;refine (Zl6 _ _ m.l s _ y.out z.out x2.out x3 y40_).mono ?_;rintro e w1 ⟨v1,rfl,P,J⟩;rw [Z.out] at P;replace d:=hid (Z0_ d.out (le_refl _) J);replace h:=hid (h.out.up J);have x0:=hid P;clear P J)
  | (go_at_call 78;refine (L.rank_any m.b m.a _ adj _ h.out.tab x0.out).mono ?_;rintro e w2 ⟨rfl,S⟩;rw [x1.out];replace d:=hid (Z0_ d.out (le_refl _) S);clear S))
 all_goals
  have Y:=hid (Z0_ g.out.drew (le_refl _) d.out);clear d;go_simp;go_wp2;go_ret;exact ⟨rfl,Y.out⟩
theorem Za4 (E:Nat→Addr) (_k:Nat) (m:Mat) (v d:Value) (s:List Int) (w:World) (C:MatV w w.heap.size v m) (_hs:Sml m) (hc:chk m=0) (B:Row w w.heap.size d s) (x:InN (nN m) s) (H:Env E w) (K:5≤m.t∧m.t≤8) (G:Nat) (o:∀ (v d:Value) (W:World),MatV W W.heap.size v m→Row W W.heap.size d s→Env E W→Calls Tryz.prog 80 #[v,d] W (Tells W (G:Int))):Calls Tryz.prog 49 #[v,d] w (Tells w (G:Int)):=by
 have o:=hid o;have M:=hid x;have X:=X0_ x;have T:=(Y0_ hc).2;have V:(s.length:Int)≤64:=y40_;have U:s.length≤1048576:=y40_;obtain ⟨Z,Y,rfl,z,y⟩:=C.open;obtain ⟨h,cl,rfl,_⟩:=id z;obtain ⟨g,u,rfl,_⟩:=id y;obtain ⟨L,cs,rfl,_⟩:=id B;have Hb0:=hid (Z1_ w m (.slice h m.l.length cl) (.slice g m.i.length u));have k:=hid (Z4_ w m (.slice h m.l.length cl) (.slice g m.i.length u));have p:=hid (B.up Hb0.out);have F:=hid (z.up Hb0.out);have D:=hid (y.up Hb0.out);have q:=hid (C.up Hb0.out);have j:=hid (H.up Hb0.out);unfold boxed at *
 have c:=k.out.cell;obtain ⟨r,hW0⟩:∃ r,r=w.alloc (.cells #[.int .i64 m.t,.int .i64 m.n,.int .i64 m.a,.int .i64 m.b,.slice h m.l.length cl,.slice g m.i.length u] 25):=⟨_,rfl⟩;have I:=hid hW0;have J:w.heap.size<r.heap.size:=z42_;rw [← hW0] at Hb0 p F D q j c k;have N:(m.t==0)=false:=x41_;have O:(m.t==1)=false:=x41_;have P:(m.t==2)=false:=x41_;have Q:(m.t==3)=false:=x41_;have R:(m.t==4)=false:=x41_;have S:(m.t==9)=false:=x41_;clear K;have g0:=c 0;have g1:=c 1;have g2:=c 2;have g3:=c 3;have g4:=c 4;have g5:=c 5;clear C B H z y x D F c k
 go_enter Tryz.func49,Tryz.ntmps49
 rw [hW0] at g0 g1 g2 g3 g4 g5 q p j Hb0;clear hW0 I J
 go_wp2_with fail
 refine (o.out _ _ _ q.out p.out j.out).mono ?_;rintro e w1 ⟨rfl,hb1⟩;exact z31_
theorem Jj4 (E:Nat→Addr) (_k:Nat) (m:Mat) (v d:Value) (s:List Int) (w:World) (D:MatV w w.heap.size v m) (_hs:Sml m) (hc:chk m=0) (C:Row w w.heap.size d s) (y:InN (nN m) s) (L:Env E w) (ht:m.t=9) (G:Nat) (q:∀ (F d:Value) (W:World),MatL W W.heap.size F m.i→Row W W.heap.size d s→Env E W→Calls Tryz.prog 79 #[F,d] W (Tells W (G:Int))):Calls Tryz.prog 49 #[v,d] w (Tells w (G:Int)):=by
 have q:=hid q;have Q:=hid y;have x1:=X0_ y;have Y:=(Y0_ hc).2;have x0:(s.length:Int)≤64:=y40_;have Z:s.length≤1048576:=y40_;obtain ⟨lv,F,rfl,B,z⟩:=D.open;obtain ⟨j,cl,rfl,_⟩:=id B;obtain ⟨h,x,rfl,_⟩:=id z;obtain ⟨P,cs,rfl,_⟩:=id C;have c:=hid (Z1_ w m (.slice j m.l.length cl) (.slice h m.i.length x));have p:=hid (Z4_ w m (.slice j m.l.length cl) (.slice h m.i.length x));have r:=hid (C.up c.out);have H:=hid (B.up c.out);have o:=hid (z.up c.out);have I:=hid (D.up c.out);have k:=hid (L.up c.out);unfold boxed at *
 have g:=p.out.cell;obtain ⟨u,hW0⟩:∃ u,u=w.alloc (.cells #[.int .i64 m.t,.int .i64 m.n,.int .i64 m.a,.int .i64 m.b,.slice j m.l.length cl,.slice h m.i.length x] 25):=⟨_,rfl⟩;have N:=hid hW0;have O:w.heap.size<u.heap.size:=z42_;rw [← hW0] at c r H o I k g p;have R:(m.t==0)=false:=x41_;have S:(m.t==1)=false:=x41_;have T:(m.t==2)=false:=x41_;have U:(m.t==3)=false:=x41_;have V:(m.t==4)=false:=x41_;have X:(m.t==9)=true:=q45_;clear ht;have J:=g 0;have K:=g 5;clear D C L B z y I H g p
 go_enter Tryz.func49,Tryz.ntmps49
 rw [hW0] at J K o r k c;clear hW0 N O
 go_wp2_with fail
 refine (q.out _ _ _ o.out r.out k.out).mono ?_;rintro e w1 ⟨rfl,M⟩;have Hb1:=hid (Z0_ c.out (le_refl _) M);clear M J K;exact k1_
open Go.RowKit
theorem one_7 (E:Nat→Addr) (k:Nat) (m:Mat) (v o:Value) (s:List Int) (w:World) (F:MatV w w.heap.size v m) (hs:Sml m) (hc:chk m=0) (C:Row w w.heap.size o s) (z:InN (nN m) s) (Q:Env E w) (ih:Zl9 E k) (hd:dp 4 m≤k+1) (ht:m.t=7):Calls Tryz.prog 80 #[v,o] w (Tells w (rkP (k+1) m (memP s):Nat)):=by
 rw [rkP_7 ht];have xc:nN m=nN (inn m):=by unfold nN;rw [H6_ hc (.inl ht)]
 have ha:=chk_a hc;have HS:=hid z;have xw:=X0_ z;have xt:=(Y0_ hc).2;have xv:(s.length:Int)≤64:=y40_;have xu:s.length≤1048576:=y40_;obtain ⟨lv,iv,rfl,xa,T⟩:=F.open;obtain ⟨Al,cl,rfl,_⟩:=id xa;obtain ⟨H,ci,rfl,_⟩:=id T;obtain ⟨As,cs,rfl,_⟩:=id C;have d:=hid (Z1_ w m (.slice Al m.l.length cl) (.slice H m.i.length ci));have J:=hid (Z4_ w m (.slice Al m.l.length cl) (.slice H m.i.length ci));have x7:=hid (C.up d.out);have HL:=hid (xa.up d.out);have HI:=hid (T.up d.out);have Hv:=hid (F.up d.out);have HE:=hid (Q.up d.out);unfold boxed at *
 have y:=J.out.cell;obtain ⟨O,hW0⟩:∃ O,O=w.alloc (.cells #[.int .i64 m.t,.int .i64 m.n,.int .i64 m.a,.int .i64 m.b,.slice Al m.l.length cl,.slice H m.i.length ci] 25):=⟨_,rfl⟩;have xe:=hid hW0;have xn:w.heap.size<O.heap.size:=z42_;rw [← hW0] at d x7 HL HI Hv HE y J;obtain ⟨q1,q2,q3⟩:=J6_ hc y40_;have xm:m.i.length=1:=z49_;obtain ⟨xo,xp,he,_,x9⟩:=T;injection he with he1 he2 he3;subst he1 he3;obtain ⟨ai,ui,xk,j,xb,r⟩:=x9 0 y40_;subst xk;rw [show (0:Nat) * 6=0 from rfl,add_zero] at xb;rw [show m.i.getD 0 default=inn m from rfl] at r;obtain ⟨lx,ix,X,V,U⟩:=r.open;obtain ⟨x0,x1,x2,x3,x4,x5,c,Y,Z,s2,s3,s4,s5⟩:=xb;rw [X] at c;injection c with c;injection c with c;injection c with h0 c;injection c with P c;injection c with h2 c;injection c with h3 c;injection c with h4 c;injection c with h5 _;subst h0 P h2 h3 h4 h5;have D:=sml_i hs (Y4_ m.i 0 default y40_);rw [show m.i.getD 0 default=inn m from rfl] at D;have xq:(0:Int)<(m.i.length:Int):=y40_;have xr:0<m.i.length:=y40_;obtain ⟨x,G⟩:∃ x,inn m=x:=⟨_,rfl⟩;simp only [G] at r V U Y Z s2 s3 s4 s5 D q2 q3 X ⊢;have Hx:=hid G;obtain ⟨Alx,clx,rfl,_⟩:=id V;obtain ⟨Aix,cix,rfl,_⟩:=id U;subst X;have t0:=(d.out.cell (p:=ai) j).trans Y;have t1:=(d.out.cell (p:=⟨ai.block,ai.off+1,none⟩) j).trans Z;have t2:=(d.out.cell (p:=⟨ai.block,ai.off+2,none⟩) j).trans s2;have t3:=(d.out.cell (p:=⟨ai.block,ai.off+3,none⟩) j).trans s3;have t4:=(d.out.cell (p:=⟨ai.block,ai.off+4,none⟩) j).trans s4;have t5:=(d.out.cell (p:=⟨ai.block,ai.off+5,none⟩) j).trans s5;have xi:=hid (r.up d.out);obtain ⟨W1,hW1⟩:∃ W1,W1=(w.alloc (.cells #[.int .i64 m.t,.int .i64 m.n,.int .i64 m.a,.int .i64 m.b,.slice Al m.l.length cl,.slice (some ai) m.i.length ci] 25)).alloc (.cells #[.int .i64 x.t,.int .i64 x.n,.int .i64 x.a,.int .i64 x.b,.slice Alx x.l.length clx,.slice Aix x.i.length cix] 25):=⟨_,rfl⟩;have x6:=hid hW1;have q:Below w.heap.size w W1:=by rw [hW1];exact ((Below.refl _ w).alloc (le_refl _) _).alloc k40_ _
 have xf:=hid q;have L:=hid (C.up q);have I:=hid (Q.up q);have N:=hid (r.up q);have xj:=hid (F.up q);have K:Hid (Blk W1 w.heap.size 25 #[.int .i64 m.t,.int .i64 m.n,.int .i64 m.a,.int .i64 m.b,.slice Al m.l.length cl,.slice (some ai) m.i.length ci]):=hid q43_;have g:Hid (Blk W1 (w.heap.size+1) 25 #[.int .i64 x.t,.int .i64 x.n,.int .i64 x.a,.int .i64 x.b,.slice Alx x.l.length clx,.slice Aix x.i.length cix]):=hid j40_;have xd:Hid (InN (nN x) s):=hid (by rw [← G,← xc];exact z);have xl:dp 4 x≤k:=y40_;have d7:(m.t==7)=true:=q45_;clear ht xc;obtain ⟨R,S⟩:∃ R:Nat,rkP k x (memP s)=R:=⟨_,rfl⟩;have xh:Hid (∀ (v o:Value) (W:World),MatV W W.heap.size v x→Row W W.heap.size o s→Env E W→Calls Tryz.prog 49 #[v,o] W (Tells W (R:Int))):=hid fun v o W P h2 h3=>by rw [← S];exact ih x v o s W P D q2 xl h2 xd.out h3
 rw [S];obtain ⟨M,hM⟩:∃ M:Int,M=((min m.a.toNat R:Nat):Int):=⟨_,rfl⟩;have xs:min m.a (R:Int)=M:=y40_;rw [← hM];have B:=(Below.refl W1.heap.size W1).drew;replace L:=hid (L.out.up B);replace I:=hid (I.out.up B);replace N:=hid (N.out.up B);clear B;have K1:Hid (∀ W,Below W1.drew.heap.size W1.drew W→W.cell? ⟨w.heap.size,2,none⟩=some (.int .i64 m.a)∧W.cell? ⟨w.heap.size+1,0,none⟩=some (.int .i64 x.t)∧W.cell? ⟨w.heap.size+1,1,none⟩=some (.int .i64 x.n)∧W.cell? ⟨w.heap.size+1,2,none⟩=some (.int .i64 x.a)∧W.cell? ⟨w.heap.size+1,3,none⟩=some (.int .i64 x.b)∧W.cell? ⟨w.heap.size+1,4,none⟩=some (.slice Alx x.l.length clx)∧W.cell? ⟨w.heap.size+1,5,none⟩=some (.slice Aix x.i.length cix)):=hid fun W h=>⟨(K.out.drew.below h K.out.lt).cell 2,(g.out.drew.below h g.out.lt).cell 0,(g.out.drew.below h g.out.lt).cell 1,(g.out.drew.below h g.out.lt).cell 2,(g.out.drew.below h g.out.lt).cell 3,(g.out.drew.below h g.out.lt).cell 4,(g.out.drew.below h g.out.lt).cell 5⟩;have u:Hid (Below W1.drew.heap.size W1.drew W1.drew):=hid (Below.refl _ _);clear Hv HL HE x7 J hs z xm x9 he2 V U Y Z s2 s3 s4 s5 j G r q1 F C Q S hM D ih ha HI xi
 go_enter Tryz.func80,Tryz.ntmps80
 rw [hW0] at d t0 t1 t2 t3 t4 t5 y;have g0:=y 0;have g5:=y 5;clear hW0 xe xn y hW1 q;go_wp2;rw [← x6.out];clear g0 g5 t0 t1 t2 t3 t4 t5 K g x6 d xj;generalize w.heap.size+1=B1 at *
 go_region_held3 (fun W=>W.cell? ⟨w.heap.size,2,none⟩=some (.int .i64 m.a)∧W.cell? ⟨B1,0,none⟩=some (.int .i64 x.t)∧W.cell? ⟨B1,1,none⟩=some (.int .i64 x.n)∧W.cell? ⟨B1,2,none⟩=some (.int .i64 x.a)∧W.cell? ⟨B1,3,none⟩=some (.int .i64 x.b)∧W.cell? ⟨B1,4,none⟩=some (.slice Alx x.l.length clx)∧W.cell? ⟨B1,5,none⟩=some (.slice Aix x.i.length cix))
  (exact K1.out _ u.out)
  (first
  | (go_at_call 49;refine (xh.out _ _ _ N.out L.out I.out).mono ?_;rintro e w2 ⟨rfl,x8⟩;replace u:=hid (Z0_ u.out (le_refl _) x8);clear x8))
 all_goals
  have xg:=hid (Z0_ xf.out.drew (le_refl _) u.out);clear u;go_simp;go_wp2;go_ret;exact ⟨rfl,xg.out⟩
theorem one_8 (E:Nat→Addr) (k:Nat) (m:Mat) (v o:Value) (s:List Int) (w:World) (hv:MatV w w.heap.size v m) (hs:Sml m) (hc:chk m=0) (hr:Row w w.heap.size o s) (F:InN (nN m) s) (hE:Env E w) (ih:Zl9 E k) (hd:dp 4 m≤k+1) (ht:m.t=8):Calls Tryz.prog 80 #[v,o] w (Tells w (rkP (k+1) m (memP s):Nat)):=by
 rw [rkP_8 ht];have K:nN m=nN (inn m):=by unfold nN;rw [H6_ hc (.inr ht)]
 have z:=chk_n hc;have HS:=hid F;have yd:=X0_ F;have yb:=(Y0_ hc).2;have yc:(s.length:Int)≤64:=y40_;have y5:s.length≤1048576:=y40_;obtain ⟨lv,iv,rfl,xj,xc⟩:=hv.open;obtain ⟨Al,cl,rfl,_⟩:=id xj;obtain ⟨Ai,ci,rfl,_⟩:=id xc;obtain ⟨As,cs,rfl,_⟩:=id hr;have d:=hid (Z1_ w m (.slice Al m.l.length cl) (.slice Ai m.i.length ci));have x7:=hid (Z4_ w m (.slice Al m.l.length cl) (.slice Ai m.i.length ci));have xg:=hid (hr.up d.out);have HL:=hid (xj.up d.out);have HI:=hid (xc.up d.out);have Hv:=hid (hv.up d.out);have HE:=hid (hE.up d.out);unfold boxed at *
 have S:=x7.out.cell;obtain ⟨W0,hW0⟩:∃ W0,W0=w.alloc (.cells #[.int .i64 m.t,.int .i64 m.n,.int .i64 m.a,.int .i64 m.b,.slice Al m.l.length cl,.slice Ai m.i.length ci] 25):=⟨_,rfl⟩;have xq:=hid hW0;have y4:w.heap.size<W0.heap.size:=z42_;rw [← hW0] at d xg HL HI Hv HE S x7;obtain ⟨q1,q2,q3⟩:=J6_ hc y40_;have y2:m.i.length=1:=z49_;obtain ⟨y7,y8,he,_,xi⟩:=xc;injection he with he1 he2 he3;subst he1 he3;obtain ⟨ai,ui,xz,G,xp,Q⟩:=xi 0 y40_;subst xz;rw [show (0:Nat) * 6=0 from rfl,add_zero] at xp;rw [show m.i.getD 0 default=inn m from rfl] at Q;obtain ⟨lx,ix,xf,xe,xd⟩:=Q.open;obtain ⟨x0,x1,x2,x3,x4,x5,c,s0,s1,s2,s3,s4,s5⟩:=xp;rw [xf] at c;injection c with c;injection c with c;injection c with h0 c;injection c with T c;injection c with h2 c;injection c with h3 c;injection c with h4 c;injection c with h5 _;subst h0 T h2 h3 h4 h5;have X:=sml_i hs (Y4_ m.i 0 default y40_);rw [show m.i.getD 0 default=inn m from rfl] at X;have y9:(0:Int)<(m.i.length:Int):=y40_;have ya:0<m.i.length:=y40_;obtain ⟨x,B⟩:∃ x,inn m=x:=⟨_,rfl⟩;simp only [B] at Q xe xd s0 s1 s2 s3 s4 s5 X q2 q3 xf ⊢;have Hx:=hid B;obtain ⟨Alx,clx,rfl,_⟩:=id xe;obtain ⟨Aix,cix,rfl,_⟩:=id xd;subst xf;have t0:=(d.out.cell (p:=ai) G).trans s0;have t1:=(d.out.cell (p:=⟨ai.block,ai.off+1,none⟩) G).trans s1;have t2:=(d.out.cell (p:=⟨ai.block,ai.off+2,none⟩) G).trans s2;have t3:=(d.out.cell (p:=⟨ai.block,ai.off+3,none⟩) G).trans s3;have t4:=(d.out.cell (p:=⟨ai.block,ai.off+4,none⟩) G).trans s4;have t5:=(d.out.cell (p:=⟨ai.block,ai.off+5,none⟩) G).trans s5;have xx:=hid (Q.up d.out);obtain ⟨W1,hW1⟩:∃ W1,W1=(w.alloc (.cells #[.int .i64 m.t,.int .i64 m.n,.int .i64 m.a,.int .i64 m.b,.slice Al m.l.length cl,.slice (some ai) m.i.length ci] 25)).alloc (.cells #[.int .i64 x.t,.int .i64 x.n,.int .i64 x.a,.int .i64 x.b,.slice Alx x.l.length clx,.slice Aix x.i.length cix] 25):=⟨_,rfl⟩;have x6:=hid hW1;have O:Below w.heap.size w W1:=by rw [hW1];exact ((Below.refl _ w).alloc (le_refl _) _).alloc k40_ _
 have xr:=hid O;have r:=hid (hr.up O);have h:=hid (hE.up O);have j:=hid (Q.up O);have xy:=hid (hv.up O);have Y:Hid (Blk W1 w.heap.size 25 #[.int .i64 m.t,.int .i64 m.n,.int .i64 m.a,.int .i64 m.b,.slice Al m.l.length cl,.slice (some ai) m.i.length ci]):=hid q43_;have x8:Hid (Blk W1 (w.heap.size+1) 25 #[.int .i64 x.t,.int .i64 x.n,.int .i64 x.a,.int .i64 x.b,.slice Alx x.l.length clx,.slice Aix x.i.length cix]):=hid j40_;have y0:InN (nN x) s:=by rw [← B,← K];exact F
 have xb:dp 4 x≤k:=y40_;have d7:(m.t==7)=false:=x41_;have d8:(m.t==8)=true:=q45_;clear ht;have xo:InN (nN x) (Z8_ (allL m.n) s):=by rw [← B,← K];exact Za1 z.1 z.2 F.1
 have xh:InN (nN x) (allL m.n):=by rw [← B,← K];exact Zx0 z.1 z.2
 have J:=rk_ok k x q2 xb;have e1:rkP k x (memP (Z8_ (allL m.n) s))=rkP k x (notP (memP s)):=J.ext fun i V=>Yj2 z.1 z.2 F.1 (by rw [← B,← K] at V;exact V);have e2:rkP k x (memP (allL m.n))=rkP k x allP:=J.ext fun i V=>Yr8 z.1 z.2 (by rw [← B,← K] at V;exact V);have b1:=J.le_cnt (notP (memP s));have b2:=J.le_cnt allP;have b3:=A8_ (notP (memP s)) (nN x);have b4:=A8_ allP (nN x);have Z:=J.submod (notP (memP s)) (memP s);have b6:=J.le_cnt (memP s);rw [show orP (notP (memP s)) (memP s)=allP from by funext i;simp only [orP,notP,allP];cases memP s i<;>rfl] at Z;have xk:=Y9_ F;have xl:nN m=nN x:=by rw [← B];exact K
 rw [← xl] at b6;obtain ⟨u,x9⟩:∃ u:Nat,rkP k x (notP (memP s))=u:=⟨_,rfl⟩;obtain ⟨C,xa⟩:∃ C:Nat,rkP k x allP=C:=⟨_,rfl⟩;rw [x9,xa,← xk];rw [x9] at e1 b1 Z;rw [xa] at e2 b2 Z;have xv:Hid (∀ (v o:Value) (W:World),MatV W W.heap.size v x→Row W W.heap.size o (Z8_ (allL m.n) s)→Env E W→Calls Tryz.prog 49 #[v,o] W (Tells W (u:Int))):=hid fun v o W T h2 h3=>by rw [← e1];exact ih x v o _ W T X q2 xb h2 xo h3
 have xw:Hid (∀ (v o:Value) (W:World),MatV W W.heap.size v x→Row W W.heap.size o (allL m.n)→Env E W→Calls Tryz.prog 49 #[v,o] W (Tells W (C:Int))):=hid fun v o W T h2 h3=>by rw [← e2];exact ih x v o _ W T X q2 xb h2 xh h3
 have y3:C≤s.length+u:=y40_;have ye:IntKind.i64.wrap ((s.length:Int)+(u:Int))=(s.length:Int)+(u:Int):=y41_;have yf:IntKind.i64.wrap ((s.length:Int)+(u:Int) - (C:Int))=(s.length:Int)+(u:Int) - (C:Int):=y41_;obtain ⟨M,hM⟩:∃ M:Int,M=((s.length+u - C:Nat):Int):=⟨_,rfl⟩;have HM:Hid ((s.length:Int)+(u:Int) - (C:Int)=M):=hid y40_;rw [← hM];have y1:=D4_ m.n;have gn:=Y.out.cell 1;clear e1 e2 b1 b2 b3 b4 Z b6 xk xl x9 xa hM J xo xh y0 K;clear Hv HL HE xg x7 hs F y2 xi he2 xe xd s0 s1 s2 s3 s4 s5 G B Q q1 hv hr hE X ih HI xx y3 z
 go_enter Tryz.func80,Tryz.ntmps80
 rw [hW0] at d t0 t1 t2 t3 t4 t5 S;have g0:=S 0;have g5:=S 5;clear hW0 xq y4 S hW1 O;rw [x6.out] at gn
 go_wp2_with fail
 refine (D0_ m.n _).mono ?_;rintro e L ⟨va,rfl,xn,D⟩;rw [← x6.out] at D;have xs:=hid (Z0_ xr.out (le_refl _) D);have xu:=hid (Y.out.below D Y.out.lt);have g:=hid (x8.out.below D x8.out.lt);replace r:=hid (r.out.up D);replace h:=hid (h.out.up D);replace j:=hid (j.out.up D);have q:=hid xn;clear D xn gn g0 g5 t0 t1 t2 t3 t4 t5 Y x8;obtain ⟨Aa,ca,y6,_⟩:=id q.out;subst y6;go_wp2;have U:=(Below.refl L.heap.size L).drew;replace r:=hid (r.out.up U);replace h:=hid (h.out.up U);replace j:=hid (j.out.up U);replace q:=hid (q.out.up U);clear U;have K1:Hid (∀ W,Below L.drew.heap.size L.drew W→W.cell? ⟨w.heap.size+1,0,none⟩=some (.int .i64 x.t)∧W.cell? ⟨w.heap.size+1,1,none⟩=some (.int .i64 x.n)∧W.cell? ⟨w.heap.size+1,2,none⟩=some (.int .i64 x.a)∧W.cell? ⟨w.heap.size+1,3,none⟩=some (.int .i64 x.b)∧W.cell? ⟨w.heap.size+1,4,none⟩=some (.slice Alx x.l.length clx)∧W.cell? ⟨w.heap.size+1,5,none⟩=some (.slice Aix x.i.length cix)):=hid fun W N=>⟨(g.out.drew.below N g.out.lt).cell 0,(g.out.drew.below N g.out.lt).cell 1,(g.out.drew.below N g.out.lt).cell 2,(g.out.drew.below N g.out.lt).cell 3,(g.out.drew.below N g.out.lt).cell 4,(g.out.drew.below N g.out.lt).cell 5⟩;have y:Hid (Below L.drew.heap.size L.drew L.drew):=hid (Below.refl _ _);clear x6 xu g d xy;generalize w.heap.size+1=B1 at *
 go_region_held3 (fun W=>W.cell? ⟨B1,0,none⟩=some (.int .i64 x.t)∧W.cell? ⟨B1,1,none⟩=some (.int .i64 x.n)∧W.cell? ⟨B1,2,none⟩=some (.int .i64 x.a)∧W.cell? ⟨B1,3,none⟩=some (.int .i64 x.b)∧W.cell? ⟨B1,4,none⟩=some (.slice Alx x.l.length clx)∧W.cell? ⟨B1,5,none⟩=some (.slice Aix x.i.length cix))
  (exact K1.out _ y.out)
  (first
  | (go_at_call 65;refine (N6_ _ _ (allL m.n) s _ q.out r.out y1 y5).mono ?_;rintro e w3 ⟨v3,rfl,xm,P⟩;replace y:=hid (Z0_ y.out (le_refl _) P);(try replace r:=hid (r.out.up P));(try replace h:=hid (h.out.up P));(try replace j:=hid (j.out.up P));(try replace q:=hid (q.out.up P));have R:=hid xm;clear xm P)
  | (go_at_call_of 49 (Value.slice Aa (allL m.n).length ca);refine (xw.out _ _ _ j.out q.out h.out).mono ?_;rintro e w5 ⟨rfl,I⟩;replace y:=hid (Z0_ y.out (le_refl _) I);(try replace r:=hid (r.out.up I));(try replace h:=hid (h.out.up I));(try replace j:=hid (j.out.up I));(try replace q:=hid (q.out.up I));(try replace R:=hid (R.out.up I));clear I)
  | (go_at_call_of 49 v3;refine (xv.out _ _ _ j.out R.out h.out).mono ?_;rintro e w4 ⟨rfl,H⟩;replace y:=hid (Z0_ y.out (le_refl _) H);(try replace r:=hid (r.out.up H));(try replace h:=hid (h.out.up H));(try replace j:=hid (j.out.up H));(try replace q:=hid (q.out.up H));(try replace R:=hid (R.out.up H));clear H))
 all_goals
  have xt:=hid (Z0_ xs.out.drew (le_refl _) y.out);clear y;go_simp;go_wp2;go_ret;exact ⟨by rw [← HM.out];rfl,xt.out⟩
theorem one_5 (E:Nat→Addr) (k:Nat) (m:Mat) (v g:Value) (s:List Int) (w:World) (G:MatV w w.heap.size v m) (hs:Sml m) (hc:chk m=0) (C:Row w w.heap.size g s) (o:InN (nN m) s) (O:Env E w) (ih:Zl9 E k) (hd:dp 4 m≤k+1) (F:m.t=5):Calls Tryz.prog 80 #[v,g] w (Tells w (rkP (k+1) m (memP s):Nat)):=by
 rw [rkP_5 F];have V:=chk_n hc;have xf:subB s (allL m.n)=true:=(S9_ V.1 V.2).2 o;have Q:imgB m s=true:=by unfold imgB;rw [xf,decide_eq_true hc,decide_eq_true (show m.t=5∨m.t=6 by omega)];rfl
 have xa:imgL m s=imgM m s:=by unfold imgL;rw [Q,if_pos rfl]
 have S:=Ze1 hc (.inl F) o;have xc:=W2_ hc (.inl F) o;have xz:=Zy9 m s;have HS:=hid o;have y2:=X0_ o;have y0:=(Y0_ hc).2;have y1:(s.length:Int)≤64:=y40_;have xu:s.length≤1048576:=y40_;obtain ⟨lv,iv,rfl,xb,P⟩:=G.open;obtain ⟨Al,cl,rfl,_⟩:=id xb;obtain ⟨I,ci,rfl,_⟩:=id P;obtain ⟨As,cs,rfl,_⟩:=id C;have d:=hid (Z1_ w m (.slice Al m.l.length cl) (.slice I m.i.length ci));have J:=hid (Z4_ w m (.slice Al m.l.length cl) (.slice I m.i.length ci));have x7:=hid (C.up d.out);have HL:=hid (xb.up d.out);have HI:=hid (P.up d.out);have Hv:=hid (G.up d.out);have HE:=hid (O.up d.out);unfold boxed at *
 have y:=J.out.cell;obtain ⟨N,hW0⟩:∃ N,N=w.alloc (.cells #[.int .i64 m.t,.int .i64 m.n,.int .i64 m.a,.int .i64 m.b,.slice Al m.l.length cl,.slice I m.i.length ci] 25):=⟨_,rfl⟩;have xg:=hid hW0;have xt:w.heap.size<N.heap.size:=z42_;rw [← hW0] at d x7 HL HI Hv HE y J;have xl:Hid (∀ (v g:Value) (W:World),MatV W W.heap.size v m→Row W W.heap.size g s→Env E W→Calls Tryz.prog 108 #[v,g] W (A1_ W true (imgM m s))):=hid fun v g W z h2 h3=>by rw [← xa,← Q];exact Yc6 E m v g s W z hs h3 h2 xu
 obtain ⟨q1,q2,q3⟩:=J6_ hc y40_;have xs:m.i.length=1:=z49_;obtain ⟨xv,xw,he,_,x9⟩:=P;injection he with he1 he2 he3;subst he1 he3;obtain ⟨ai,ui,xq,h,xe,u⟩:=x9 0 y40_;subst xq;rw [show (0:Nat) * 6=0 from rfl,add_zero] at xe;rw [show m.i.getD 0 default=inn m from rfl] at u;obtain ⟨lx,ix,X,U,T⟩:=u.open;obtain ⟨x0,x1,x2,x3,x4,x5,c,Y,Z,s2,s3,s4,s5⟩:=xe;rw [X] at c;injection c with c;injection c with c;injection c with h0 c;injection c with z c;injection c with h2 c;injection c with h3 c;injection c with h4 c;injection c with h5 _;subst h0 z h2 h3 h4 h5;have D:=sml_i hs (Y4_ m.i 0 default y40_);rw [show m.i.getD 0 default=inn m from rfl] at D;have xx:(0:Int)<(m.i.length:Int):=y40_;have xy:0<m.i.length:=y40_;obtain ⟨x,H⟩:∃ x,inn m=x:=⟨_,rfl⟩;simp only [H] at u U T Y Z s2 s3 s4 s5 D q2 q3 X ⊢;have Hx:=hid H;obtain ⟨Alx,clx,rfl,_⟩:=id U;obtain ⟨Aix,cix,rfl,_⟩:=id T;subst X;have t0:=(d.out.cell (p:=ai) h).trans Y;have t1:=(d.out.cell (p:=⟨ai.block,ai.off+1,none⟩) h).trans Z;have t2:=(d.out.cell (p:=⟨ai.block,ai.off+2,none⟩) h).trans s2;have t3:=(d.out.cell (p:=⟨ai.block,ai.off+3,none⟩) h).trans s3;have t4:=(d.out.cell (p:=⟨ai.block,ai.off+4,none⟩) h).trans s4;have t5:=(d.out.cell (p:=⟨ai.block,ai.off+5,none⟩) h).trans s5;have xm:=hid (u.up d.out);obtain ⟨W1,hW1⟩:∃ W1,W1=(w.alloc (.cells #[.int .i64 m.t,.int .i64 m.n,.int .i64 m.a,.int .i64 m.b,.slice Al m.l.length cl,.slice (some ai) m.i.length ci] 25)).alloc (.cells #[.int .i64 x.t,.int .i64 x.n,.int .i64 x.a,.int .i64 x.b,.slice Alx x.l.length clx,.slice Aix x.i.length cix] 25):=⟨_,rfl⟩;have x6:=hid hW1;have q:Below w.heap.size w W1:=by rw [hW1];exact ((Below.refl _ w).alloc (le_refl _) _).alloc k40_ _
 have xh:=hid q;have xo:=hid (C.up q);have B:=hid (O.up q);have M:=hid (u.up q);have xp:=hid (G.up q);have K:Hid (Blk W1 w.heap.size 25 #[.int .i64 m.t,.int .i64 m.n,.int .i64 m.a,.int .i64 m.b,.slice Al m.l.length cl,.slice (some ai) m.i.length ci]):=hid q43_;have L:Hid (Blk W1 (w.heap.size+1) 25 #[.int .i64 x.t,.int .i64 x.n,.int .i64 x.a,.int .i64 x.b,.slice Alx x.l.length clx,.slice Aix x.i.length cix]):=hid j40_;have xr:dp 4 x≤k:=y40_;rw [H] at S;have d7:(m.t==7)=false:=x41_;have d8:(m.t==8)=false:=x41_;have d5:(m.t==5)=true:=x41_;rw [← xc];clear F;obtain ⟨R,hR⟩:∃ R:Nat,rkP k x (memP (imgM m s))=R:=⟨_,rfl⟩;have xk:Hid (∀ (v g:Value) (W:World),MatV W W.heap.size v x→Row W W.heap.size g (imgM m s)→Env E W→Calls Tryz.prog 49 #[v,g] W (Tells W (R:Int))):=hid fun v g W z h2 h3=>by rw [← hR];exact ih x v g _ W z D q2 xr h2 S h3
 rw [hR];clear Hv HL HE x7 J hs o xs x9 he2 U T Y Z s2 s3 s4 s5 h H u q1 G C O D ih HI xm xf Q xa S xc V
 go_enter Tryz.func80,Tryz.ntmps80
 rw [hW0] at d t0 t1 t2 t3 t4 t5 y;have g0:=y 0;have g5:=y 5;clear hW0 xg xt y hW1 q
 go_wp2_with fail
 rw [← x6.out];refine (xl.out _ _ _ xp.out xo.out B.out).mono ?_;rintro e w2 ⟨v2,rfl,xd,r,_⟩;have xi:=hid (Z0_ xh.out (le_refl _) r);have xj:=hid (K.out.below r K.out.lt);have j:=hid (L.out.below r L.out.lt);replace B:=hid (B.out.up r);replace M:=hid (M.out.up r);have xn:=hid xd;have c0:=j.out.cell 0;have c1:=j.out.cell 1;have c2:=j.out.cell 2;have c3:=j.out.cell 3;have c4:=j.out.cell 4;have c5:=j.out.cell 5;have m0:=xj.out.cell 0;clear r xd g0 g5 t0 t1 t2 t3 t4 t5 K L x6 d
 go_wp2_with fail
 refine (xk.out _ _ _ M.out xn.out B.out).mono ?_;rintro e w3 ⟨rfl,x8⟩;have Hb3:=hid (Z0_ xi.out (le_refl _) x8);clear x8 c0 c1 c2 c3 c4 c5 m0;exact q8_
theorem one_6 (E:Nat→Addr) (k:Nat) (m:Mat) (v c:Value) (s:List Int) (w:World) (hv:MatV w w.heap.size v m) (hs:Sml m) (hc:chk m=0) (hr:Row w w.heap.size c s) (J:InN (nN m) s) (hE:Env E w) (ih:Zl9 E k) (hd:dp 4 m≤k+1) (Q:m.t=6):Calls Tryz.prog 80 #[v,c] w (Tells w (rkP (k+1) m (memP s):Nat)):=by
 rw [rkP_6 Q];have xk:=chk_n hc;have xy:subB s (allL m.n)=true:=(S9_ xk.1 xk.2).2 J;have xg:imgB m s=true:=by unfold imgB;rw [xy,decide_eq_true hc,decide_eq_true (show m.t=5∨m.t=6 by omega)];rfl
 have xr:imgL m s=imgM m s:=by unfold imgL;rw [xg,if_pos rfl]
 have x6:=Ze1 hc (.inr Q) J;have xt:=W2_ hc (.inr Q) J;have yr:=Zy9 m s;have P:=Ze0 hc (.inr Q);have HS:=hid J;have yw:=X0_ J;have yu:=(Y0_ hc).2;have yv:(s.length:Int)≤64:=y40_;have yj:s.length≤1048576:=y40_;obtain ⟨lv,iv,rfl,xi,xf⟩:=hv.open;obtain ⟨Al,cl,rfl,_⟩:=id xi;obtain ⟨Ai,ci,rfl,_⟩:=id xf;obtain ⟨As,cs,rfl,_⟩:=id hr;have g:=hid (Z1_ w m (.slice Al m.l.length cl) (.slice Ai m.i.length ci));have x8:=hid (Z4_ w m (.slice Al m.l.length cl) (.slice Ai m.i.length ci));have xo:=hid (hr.up g.out);have HL:=hid (xi.up g.out);have HI:=hid (xf.up g.out);have Hv:=hid (hv.up g.out);have HE:=hid (hE.up g.out);unfold boxed at *
 have S:=x8.out.cell;obtain ⟨W0,hW0⟩:∃ W0,W0=w.alloc (.cells #[.int .i64 m.t,.int .i64 m.n,.int .i64 m.a,.int .i64 m.b,.slice Al m.l.length cl,.slice Ai m.i.length ci] 25):=⟨_,rfl⟩;have y0:=hid hW0;have yg:w.heap.size<W0.heap.size:=z42_;rw [← hW0] at g xo HL HI Hv HE S x8;have y7:Hid (∀ (v c:Value) (W:World),MatV W W.heap.size v m→Row W W.heap.size c s→Env E W→Calls Tryz.prog 108 #[v,c] W (A1_ W true (imgM m s))):=hid fun v c W D h2 h3=>by rw [← xr,← xg];exact Yc6 E m v c s W D hs h3 h2 yj
 obtain ⟨q1,q2,q3⟩:=J6_ hc y40_;have yd:m.i.length=1:=z49_;obtain ⟨yl,yn,he,_,xq⟩:=xf;injection he with he1 he2 he3;subst he1 he3;obtain ⟨ai,ui,ya,F,xx,O⟩:=xq 0 y40_;subst ya;rw [show (0:Nat) * 6=0 from rfl,add_zero] at xx;rw [show m.i.getD 0 default=inn m from rfl] at O;obtain ⟨lx,ix,xm,xj,xh⟩:=O.open;obtain ⟨x0,x1,x2,x3,x4,x5,d,s0,s1,s2,s3,s4,s5⟩:=xx;rw [xm] at d;injection d with d;injection d with d;injection d with h0 d;injection d with D d;injection d with h2 d;injection d with h3 d;injection d with h4 d;injection d with h5 _;subst h0 D h2 h3 h4 h5;have U:=sml_i hs (Y4_ m.i 0 default y40_);rw [show m.i.getD 0 default=inn m from rfl] at U;have yp:(0:Int)<(m.i.length:Int):=y40_;have yq:0<m.i.length:=y40_;obtain ⟨x,V⟩:∃ x,inn m=x:=⟨_,rfl⟩;simp only [V] at O xj xh s0 s1 s2 s3 s4 s5 U q2 q3 xm ⊢;have Hx:=hid V;obtain ⟨Alx,clx,rfl,_⟩:=id xj;obtain ⟨Aix,cix,rfl,_⟩:=id xh;subst xm;have t0:=(g.out.cell (p:=ai) F).trans s0;have t1:=(g.out.cell (p:=⟨ai.block,ai.off+1,none⟩) F).trans s1;have t2:=(g.out.cell (p:=⟨ai.block,ai.off+2,none⟩) F).trans s2;have t3:=(g.out.cell (p:=⟨ai.block,ai.off+3,none⟩) F).trans s3;have t4:=(g.out.cell (p:=⟨ai.block,ai.off+4,none⟩) F).trans s4;have t5:=(g.out.cell (p:=⟨ai.block,ai.off+5,none⟩) F).trans s5;have y8:=hid (O.up g.out);obtain ⟨W1,hW1⟩:∃ W1,W1=(w.alloc (.cells #[.int .i64 m.t,.int .i64 m.n,.int .i64 m.a,.int .i64 m.b,.slice Al m.l.length cl,.slice (some ai) m.i.length ci] 25)).alloc (.cells #[.int .i64 x.t,.int .i64 x.n,.int .i64 x.a,.int .i64 x.b,.slice Alx x.l.length clx,.slice Aix x.i.length cix] 25):=⟨_,rfl⟩;have xn:=hid hW1;have L:Below w.heap.size w W1:=by rw [hW1];exact ((Below.refl _ w).alloc (le_refl _) _).alloc k40_ _
 have X:=hid L;have y9:=hid (hr.up L);have j:=hid (hE.up L);have r:=hid (O.up L);have xp:=hid (hv.up L);have x9:Hid (Blk W1 w.heap.size 25 #[.int .i64 m.t,.int .i64 m.n,.int .i64 m.a,.int .i64 m.b,.slice Al m.l.length cl,.slice (some ai) m.i.length ci]):=hid q43_;have xb:Hid (Blk W1 (w.heap.size+1) 25 #[.int .i64 x.t,.int .i64 x.n,.int .i64 x.a,.int .i64 x.b,.slice Alx x.l.length clx,.slice Aix x.i.length cix]):=hid j40_;have xe:dp 4 x≤k:=y40_;rw [V] at x6;rw [V] at P;have d7:(m.t==7)=false:=x41_;have d8:(m.t==8)=false:=x41_;have d5:(m.t==5)=false:=x41_;rw [← xt];have xz:=E4_ x6 P;have x7:=rk_ok k x q2 xe;have e1:rkP k x (memP (Y1_ (imgM m s) (row m 0)))=rkP k x (orP (memP (row m 0)) (memP (imgM m s))):=x7.ext fun i _=>by rw [I9_ x6.1 P.1];unfold orP;rw [Bool.or_comm]
 have xu:rkP k x (memP (row m 0))≤rkP k x (orP (memP (row m 0)) (memP (imgM m s))):=x7.mono fun i _ h=>by unfold orP;rw [h];rfl
 have b1:=x7.le_cnt (orP (memP (row m 0)) (memP (imgM m s)));have b2:=A8_ (orP (memP (row m 0)) (memP (imgM m s))) (nN x);have b3:=(Y0_ q2).2;have yh:=X0_ P;obtain ⟨B,Y⟩:∃ B:Nat,rkP k x (orP (memP (row m 0)) (memP (imgM m s)))=B:=⟨_,rfl⟩;obtain ⟨C,Z⟩:∃ C:Nat,rkP k x (memP (row m 0))=C:=⟨_,rfl⟩;rw [Y,Z] at xu;rw [Y] at e1 b1;rw [Y,Z];have y5:Hid (∀ (v c:Value) (W:World),MatV W W.heap.size v x→Row W W.heap.size c (Y1_ (imgM m s) (row m 0))→Env E W→Calls Tryz.prog 49 #[v,c] W (Tells W (B:Int))):=hid fun v c W D h2 h3=>by rw [← e1];exact ih x v c _ W D U q2 xe h2 xz h3
 have y6:Hid (∀ (v c:Value) (W:World),MatV W W.heap.size v x→Row W W.heap.size c (row m 0)→Env E W→Calls Tryz.prog 49 #[v,c] W (Tells W (C:Int))):=hid fun v c W D h2 h3=>by rw [← Z];exact ih x v c _ W D U q2 xe h2 P h3
 have yx:IntKind.i64.wrap ((B:Int) - (C:Int))=(B:Int) - (C:Int):=y41_;obtain ⟨M,hM⟩:∃ M:Int,M=((B - C:Nat):Int):=⟨_,rfl⟩;have HM:Hid ((B:Int) - (C:Int)=M):=hid y40_;rw [← hM];have yf:m.l.length=1:=(D2_ hc (.inr Q)).1;obtain ⟨ym,yo,yc,_,xs⟩:=xi;injection yc with hel1 hel2 hel3;subst hel1 hel3;obtain ⟨ad,u0,yb,xc,xd,xl⟩:=xs 0 y40_;subst yb;rw [add_zero] at xd;rw [show m.l.getD 0 []=row m 0 from rfl] at xl;have ys:(0:Int)<(m.l.length:Int):=y40_;have yt:0<m.l.length:=y40_;have ye:(imgM m s).length≤1048576:=y40_;have yi:(row m 0).length≤1048576:=y40_;have q:=hid (xl.up X.out);have y4:=hid ((X.out.cell (p:=ad) xc).trans xd);have y1:=hid (show ad.block<W1.heap.size from Nat.lt_of_lt_of_le xc X.out.size);clear Q xz x7 e1 xu b1 b2 b3 yh Y Z hM yf hel2 xs xc xd xl P;clear Hv HL HE xo x8 hs J yd xq he2 xj xh s0 s1 s2 s3 s4 s5 F V O q1 hv hr hE U ih HI y8 xy xg xr x6 xt xk
 go_enter Tryz.func80,Tryz.ntmps80
 rw [hW0] at g t0 t1 t2 t3 t4 t5 S;have g0:=S 0;have g5:=S 5;clear hW0 y0 yg S hW1 L
 go_wp2_with fail
 rw [← xn.out];refine (y7.out _ _ _ xp.out y9.out j.out).mono ?_;rintro e I ⟨v2,rfl,xv,z,_⟩;have y2:=hid (Z0_ X.out (le_refl _) z);have xa:=hid (x9.out.below z x9.out.lt);have o:=hid (xb.out.below z xb.out.lt);replace j:=hid (j.out.up z);replace r:=hid (r.out.up z);have y:=hid xv;have m0:=xa.out.cell 0;have m4:=xa.out.cell 4;have cu:=(z.cell (p:=ad) y1.out).trans y4.out;replace q:=hid (q.out.up z);clear z xv g0 g5 t0 t1 t2 t3 t4 t5 x9 xb xn g;obtain ⟨Ag,cg,yk,_⟩:=id q.out;subst yk;go_wp2;clear m0 m4 cu;have T:=(Below.refl I.heap.size I).drew;replace j:=hid (j.out.up T);replace r:=hid (r.out.up T);replace y:=hid (y.out.up T);replace q:=hid (q.out.up T);clear T;have K1:Hid (∀ W,Below I.drew.heap.size I.drew W→W.cell? ⟨w.heap.size+1,0,none⟩=some (.int .i64 x.t)∧W.cell? ⟨w.heap.size+1,1,none⟩=some (.int .i64 x.n)∧W.cell? ⟨w.heap.size+1,2,none⟩=some (.int .i64 x.a)∧W.cell? ⟨w.heap.size+1,3,none⟩=some (.int .i64 x.b)∧W.cell? ⟨w.heap.size+1,4,none⟩=some (.slice Alx x.l.length clx)∧W.cell? ⟨w.heap.size+1,5,none⟩=some (.slice Aix x.i.length cix)):=hid fun W K=>⟨(o.out.drew.below K o.out.lt).cell 0,(o.out.drew.below K o.out.lt).cell 1,(o.out.drew.below K o.out.lt).cell 2,(o.out.drew.below K o.out.lt).cell 3,(o.out.drew.below K o.out.lt).cell 4,(o.out.drew.below K o.out.lt).cell 5⟩;have u:Hid (Below I.drew.heap.size I.drew I.drew):=hid (Below.refl _ _);clear xa o xp;generalize w.heap.size+1=B1 at *
 go_region_held3 (fun W=>W.cell? ⟨B1,0,none⟩=some (.int .i64 x.t)∧W.cell? ⟨B1,1,none⟩=some (.int .i64 x.n)∧W.cell? ⟨B1,2,none⟩=some (.int .i64 x.a)∧W.cell? ⟨B1,3,none⟩=some (.int .i64 x.b)∧W.cell? ⟨B1,4,none⟩=some (.slice Alx x.l.length clx)∧W.cell? ⟨B1,5,none⟩=some (.slice Aix x.i.length cix))
  (exact K1.out _ u.out)
  (first
  | (go_at_call 109;refine (Yj8 _ _ (imgM m s) (row m 0) _ y.out q.out ye yi).mono ?_;rintro e w3 ⟨v3,rfl,xw,N⟩;replace u:=hid (Z0_ u.out (le_refl _) N);(try replace j:=hid (j.out.up N));(try replace r:=hid (r.out.up N));(try replace y:=hid (y.out.up N));(try replace q:=hid (q.out.up N));have R:=hid xw;clear xw N)
  | (go_at_call_of 49 (Value.slice Ag (row m 0).length cg);refine (y6.out _ _ _ r.out q.out j.out).mono ?_;rintro e w5 ⟨rfl,H⟩;replace u:=hid (Z0_ u.out (le_refl _) H);(try replace j:=hid (j.out.up H));(try replace r:=hid (r.out.up H));(try replace y:=hid (y.out.up H));(try replace q:=hid (q.out.up H));(try replace R:=hid (R.out.up H));clear H)
  | (go_at_call_of 49 v3;refine (y5.out _ _ _ r.out R.out j.out).mono ?_;rintro e w4 ⟨rfl,G⟩;replace u:=hid (Z0_ u.out (le_refl _) G);(try replace j:=hid (j.out.up G));(try replace r:=hid (r.out.up G));(try replace y:=hid (y.out.up G));(try replace q:=hid (q.out.up G));(try replace R:=hid (R.out.up G));clear G))
 all_goals
  have y3:=hid (Z0_ y2.out.drew (le_refl _) u.out);clear u;go_simp;go_wp2;go_ret;exact ⟨by rw [← HM.out];rfl,y3.out⟩
open Go.RowKit
def offN (l:List Mat) (j:Nat):Nat:=((l.take j).map nN).sum
theorem Zf3 {l:List Mat} {j:Nat} (c:j<l.length):offN l (j+1)=offN l j+nN (l.getD j default):=by
 unfold offN;rw [List.take_succ_eq_append_getElem c,List.map_append,List.sum_append,show l.getD j default=l[j] by simp [List.getD,c]];simp
theorem Xl6 (l:List Mat):∀ j,offN l j≤(l.map nN).sum:=by
 intro j;unfold offN
 conv=>rhs;rw [← List.take_append_drop j l,List.map_append,List.sum_append]
 exact Nat.le_add_right _ _
theorem Zf4 (f:Mat→(Nat→Bool)→Nat):∀ (a b:List Mat) (P:Nat→Bool),sumR f (a ++ b) P=sumR f a P+sumR f b (fun i=>P ((a.map nN).sum+i))
 | [],b,P=>by simp [sumR]
 | x :: a,b,P=>by
  rw [List.cons_append,sumR,sumR,Zf4 f a b,List.map_cons,List.sum_cons];have:(fun i=>(fun i=>P (nN x+i)) ((a.map nN).sum+i))=fun i=>P (nN x+(a.map nN).sum+i):=by funext i;show P _=P _;rw [Nat.add_assoc]
  rw [this];omega
theorem Yq4 (f:Mat→(Nat→Bool)→Nat) {l:List Mat} {j:Nat} (c:j<l.length) (P:Nat→Bool):sumR f (l.take (j+1)) P=sumR f (l.take j) P+f (l.getD j default) (fun i=>P (offN l j+i)):=by
 rw [List.take_succ_eq_append_getElem c,Zf4,show l.getD j default=l[j] by simp [List.getD,c]];simp [sumR,offN]
theorem Yi8 {s:List Int} {N f n:Nat} (hs:InN N s) (e:n≤64):InN n (betL s f n):=by
 have hb:∀ x∈betL s (f:Int) (n:Int),0≤x∧x<(n:Int):=fun x c=>by
  obtain ⟨z,d,rfl⟩:=List.mem_map.1 c;have:=(List.mem_filter.1 d).2;unfold betB at this;rw [Bool.and_eq_true,decide_eq_true_iff,decide_eq_true_iff] at this;omega
 refine ⟨⟨?_,fun x c=>⟨(hb x c).1,by have:=(hb x c).2;omega⟩⟩,hb⟩;unfold betL;rw [List.pairwise_map];exact (hs.1.1.sublist List.filter_sublist).imp fun h=>by omega
theorem Zs4 {s:List Int} {f n i:Nat} (d:i<n):memP (betL s f n) i=memP s (f+i):=by
 rw [Bool.eq_iff_iff,memP_iff,memP_iff];unfold betL;rw [List.mem_map];constructor
 ·rintro ⟨z,c,e⟩
  have:=(List.mem_filter.1 c).1
  rwa [show (((f+i:Nat)):Int)=z by omega]
 ·intro h
  refine ⟨((f+i:Nat):Int),List.mem_filter.2 ⟨h,?_⟩,y40_⟩;unfold betB;rw [decide_eq_true y40_,decide_eq_true y40_];rfl
theorem Vr5 (E:Nat→Addr) (k:Nat) (m:Mat) (iv o:Value) (s:List Int) (w:World) (hi:MatL w w.heap.size iv m.i) (hs:Sml m) (hc:chk m=0) (U:Row w w.heap.size o s) (D:InN (nN m) s) (hE:Env E w) (ih:Zl9 E k) (hd:dp 4 m≤k+1) (ht:m.t=9) :
  Calls Tryz.prog 79 #[iv,o] w (Tells w (sumR (rkP k) m.i (memP s):Nat)):=by
 obtain ⟨y7,h8⟩:=Zr9 hc ht;have yb:=(Y0_ hc).2;have xf:∀ j,offN m.i j≤64:=fun j=>by have:=Xl6 m.i j;omega
 have S:∀ j,j<m.i.length→chk (m.i.getD j default)=0∧dp 4 (m.i.getD j default)≤k∧Sml (m.i.getD j default):=fun j hj=>z26_;have xg:∀ j,j≤m.i.length→sumR (rkP k) (m.i.take j) (memP s)≤offN m.i j:=by
  intro j
  induction j with
  | zero=>intro _;simp [sumR]
  | succ j ihj =>
   intro hj;have C:=ihj y40_;obtain ⟨c1,c2,_⟩:=S j y40_;have h2:=(rk_ok k _ c1 c2).le_cnt (fun i=>memP s (offN m.i j+i));have h3:=A8_ (fun i=>memP s (offN m.i j+i)) (nN (m.i.getD j default));rw [Yq4 _ y40_,Zf3 y40_];omega
 have yc:=X0_ D;have xj:∀ j,j<s.length→0≤s.getD j 0∧s.getD j 0≤64:=fun j hj=>by have:=M1_ D hj;omega
 obtain ⟨Ai,ci,rfl,_,x9⟩:=hi;obtain ⟨As,cs,rfl,_⟩:=id U;have xq:=hid x9;have Hr:=hid U;have HE:=hid hE;have HS:=hid D;have x6:=hid xf;have xs:=hid S;have xu:=hid xg;have xw:=hid xj;have y8:(m.i.length:Int)≤8:=y40_;have y6:s.length≤64:=y40_;clear x9 U hE D xf S xg xj hs y7 hd
 go_enter Tryz.func79,Tryz.ntmps79
 go_wp2
 go_loopw [5,6,11] (fun vm vf Y wr=>∃ j:Nat,Y=.int .i64 j∧j≤m.i.length∧vm=.int .i64 (sumR (rkP k) (m.i.take j) (memP s):Nat)∧vf=.int .i64 (offN m.i j:Nat)∧Below w.heap.size w wr) (fun _ _ Y _=>m.i.length - (intOf Y).toNat)
 case atStart=>exact ⟨0,rfl,Nat.zero_le _,by simp [sumR],by simp [offN],Below.refl _ _⟩
 case round =>
  obtain ⟨j,rfl,hj,rfl,rfl,g⟩:=hrel;by_cases K:j<m.i.length
  ·have ya:(j:Int)<(m.i.length:Int):=by omega
   obtain ⟨ai,ui,xz,hab,xi,xd⟩:=xq.out j K;subst xz;obtain ⟨c1,c2,c3⟩:=xs.out j K;have q:=Yq4 (rkP k) K (memP s);have T:=Zf3 K;have xe:=x6.out j;have y3:=x6.out (j+1);have y4:=xu.out (j+1) y40_;have y5:=xi.below g x42_;have Q:=(xd.bel g).mono g.size;obtain ⟨lx,ix,xk,xc,xa⟩:=Q.open;obtain ⟨x0,x1,x2,x3,x4,x5,c,s0,s1,s2,s3,s4,s5⟩:=y5;rw [xk] at c;injection c with c;injection c with c;injection c with h0 c;injection c with C c;injection c with h2 c;injection c with h3 c;injection c with h4 c;injection c with h5 _;subst h0 C h2 h3 h4 h5;generalize m.i.getD j default=x at *
   obtain ⟨y,B,rfl,_⟩:=id xc;obtain ⟨u,z,rfl,_⟩:=id xa;subst xk;have X:=Y0_ c1;have P:=Yi8 (f:=offN m.i j) (n:=nN x) HS.out X.2;have V:=rk_ok k x c1 c2;have e1:rkP k x (memP (betL s (offN m.i j:Nat) (nN x:Nat)))=rkP k x (fun i=>memP s (offN m.i j+i)):=V.ext fun i y2=>Zs4 y2;rw [← e1] at q;have N:=V.le_cnt (memP (betL s (offN m.i j:Nat) (nN x:Nat)));have b2:=A8_ (memP (betL s (offN m.i j:Nat) (nN x:Nat))) (nN x);obtain ⟨W1,H⟩:∃ W1,W1=wr.alloc (.cells #[.int .i64 x.t,.int .i64 x.n,.int .i64 x.a,.int .i64 x.b,.slice y x.l.length B,.slice u x.i.length z] 25):=⟨_,rfl⟩;have Z:=hid H;have r:Below wr.heap.size wr W1:=by rw [H];exact (Below.refl _ wr).alloc (le_refl _) _
   have x8:Blk W1 wr.heap.size 25 #[.int .i64 x.t,.int .i64 x.n,.int .i64 x.a,.int .i64 x.b,.slice y x.l.length B,.slice u x.i.length z]:=by rw [H];exact Blk.new wr _ _
   have d:=hid x8;have J:=(Below.refl W1.heap.size W1).drew;have xl:=hid (g.trans (r.mono g.size));have xy:=hid (((Hr.out.up g).up r).up J);have L:=hid (((HE.out.up g).up r).up J);have M:=hid ((Q.up r).up J);obtain ⟨F,hF⟩:∃ F,offN m.i j=F:=⟨_,rfl⟩;obtain ⟨G,hG⟩:∃ G,sumR (rkP k) (m.i.take j) (memP s)=G:=⟨_,rfl⟩;rw [hF] at P N b2 q T xe ⊢;rw [hG] at q ⊢;obtain ⟨R,O⟩:∃ R:Nat,rkP k x (memP (betL s (F:Nat) (nN x:Nat)))=R:=⟨_,rfl⟩;rw [O] at q N;have xp:Hid (∀ (v o:Value) (W:World),MatV W W.heap.size v x→Row W W.heap.size o (betL s (F:Nat) x.n)→Env E W→Calls Tryz.prog 49 #[v,o] W (Tells W (R:Int))):=hid fun v o W C h2 h3=>by rw [← O];rw [← X.1] at h2;exact ih x v o _ W C c3 c1 c2 h2 P h3
   have y0:0≤(F:Int)∧(F:Int)≤1000:=y40_;have y1:0≤x.n∧x.n≤1000:=y40_;have yd:IntKind.i64.wrap ((G:Int)+(R:Int))=(G:Int)+(R:Int):=y41_;have ye:IntKind.i64.wrap ((F:Int)+x.n)=(F:Int)+x.n:=y41_;have xx:Hid ((G:Int)+(R:Int)=(sumR (rkP k) (m.i.take (j+1)) (memP s):Nat)):=hid (by rw [q];omega);have xt:Hid ((F:Int)+x.n=(offN m.i (j+1):Nat)):=hid (by rw [T];omega);have K1:Hid (∀ W,Below W1.drew.heap.size W1.drew W→W.cell? ⟨wr.heap.size,0,none⟩=some (.int .i64 x.t)∧W.cell? ⟨wr.heap.size,1,none⟩=some (.int .i64 x.n)∧W.cell? ⟨wr.heap.size,2,none⟩=some (.int .i64 x.a)∧W.cell? ⟨wr.heap.size,3,none⟩=some (.int .i64 x.b)∧W.cell? ⟨wr.heap.size,4,none⟩=some (.slice y x.l.length B)∧W.cell? ⟨wr.heap.size,5,none⟩=some (.slice u x.i.length z)):=hid fun W p=>⟨(d.out.drew.below p d.out.lt).cell 0,(d.out.drew.below p d.out.lt).cell 1,(d.out.drew.below p d.out.lt).cell 2,(d.out.drew.below p d.out.lt).cell 3,(d.out.drew.below p d.out.lt).cell 4,(d.out.drew.below p d.out.lt).cell 5⟩;have h:Hid (Below W1.drew.heap.size W1.drew W1.drew):=hid (Below.refl _ _);clear H r x8 J P V e1 N b2 q T xe y3 y4 hF hG O X xd Q xc xa xi hab c1 c2 c3 g ih hc;go_wp2;rw [← Z.out];clear s0 s1 s2 s3 s4 s5 Z d;generalize wr.heap.size=B1 at *
   go_region_held3 (fun W=>W.cell? ⟨B1,0,none⟩=some (.int .i64 x.t)∧W.cell? ⟨B1,1,none⟩=some (.int .i64 x.n)∧W.cell? ⟨B1,2,none⟩=some (.int .i64 x.a)∧W.cell? ⟨B1,3,none⟩=some (.int .i64 x.b)∧W.cell? ⟨B1,4,none⟩=some (.slice y x.l.length B)∧W.cell? ⟨B1,5,none⟩=some (.slice u x.i.length z))
    (exact K1.out _ h.out)
    (first
    | (go_at_call 107;refine (Yi7 _ s (F:Int) x.n _ xy.out xw.out y0 y1 y6).mono ?_;rintro e w3 ⟨v3,rfl,xh,I⟩;replace h:=hid (Z0_ h.out (le_refl _) I);replace L:=hid (L.out.up I);replace M:=hid (M.out.up I);have xv:=hid xh;clear xh I)
    | (go_at_call 49;refine (xp.out _ _ _ M.out xv.out L.out).mono ?_;rintro e w4 ⟨rfl,x7⟩;replace h:=hid (Z0_ h.out (le_refl _) x7);clear x7))
   all_goals
    obtain ⟨_,q1,_⟩:=K1.out _ h.out;have xm:=hid (Z0_ xl.out.drew (le_refl _) h.out);clear h;go_simp;go_wp2
    go_roundw
    case rel=>exact ⟨j+1,j41_,y40_,by rw [← xx.out],by rw [← xt.out],xm.out⟩
    exact mz_
  ·have xb:j=m.i.length:=by omega
   have xr:=hid xb;have xo:Hid (m.i.take j=m.i):=hid (by rw [xr.out,List.take_length]);have xn:=hid g;have y9:¬ (j:Int)<(m.i.length:Int):=y40_;clear g xb;go_wp2;go_ret;exact ⟨by rw [xo.out];rfl,xn.out⟩
theorem Ys4 (E:Nat→Addr):∀ k,Zl9 E k
 | 0=>fun m _ _ _ _ _ _ _ hd _ _ _=>absurd hd (by have:=Zd7 4 m;omega)
 | k+1=>fun m v d s w h hs hc hd g e f=>by
  have o:=Ys4 E k;have q:=Zr8 hc;rcases (by omega:m.t=0∨m.t=1∨m.t=2∨m.t=3∨m.t=4∨m.t=5∨m.t=6∨m.t=7∨m.t=8∨m.t=9) with c | c | c | c | c | c | c | c | c | c
  ·exact Jv9 E k m v d s w h hs hc g e f c
  ·exact Jj0 E k m v d s w h hs hc g e f c
  ·exact Jj1 E k m v d s w h hs hc g e f c
  ·exact Jj2 E k m v d s w h hs hc g e f c
  ·exact Jj3 E k m v d s w h hs hc g e f c
  ·exact Za4 E k m v d s w h hs hc g e f y40_ _ fun v d W j h2 h3=>one_5 E k m v d s W j hs hc h2 e h3 o hd c
  ·exact Za4 E k m v d s w h hs hc g e f y40_ _ fun v d W j h2 h3=>one_6 E k m v d s W j hs hc h2 e h3 o hd c
  ·exact Za4 E k m v d s w h hs hc g e f y40_ _ fun v d W j h2 h3=>one_7 E k m v d s W j hs hc h2 e h3 o hd c
  ·exact Za4 E k m v d s w h hs hc g e f y40_ _ fun v d W j h2 h3=>one_8 E k m v d s W j hs hc h2 e h3 o hd c
  ·rw [rkP_9 y40_]
   exact Jj4 E k m v d s w h hs hc g e f c _ fun p d W j h2 h3=>Vr5 E k m p d s W j hs hc h2 e h3 o hd c
end Go.Proofs.YtigobiacbficaaaGreatDoor.Wp
