/- The program's picked and edges, walked: rows that are made and filled. The program's ofClasses and between, walked. What the layers below tell of the elements that are picked is the rank: plain. The program's rank of a set of elements, walked. The program's ofOne, ofSum and rank, walked. The program's ofSum, and rank as a whole, walked. -/
import Derived.Test.YtgpljiijjnaofaaGreatDoorZX
import Derived.Test.YtgpljiijjnaofaaGreatDoorGPlaces
import Derived.Test.YtgpljiijjnaofaaGreatDoorIRank
import Derived.Test.YtgpljiijjnaofaaGreatDoorZO
import Derived.Test.YtgpljiijjnaofaaGreatDoorZK
import Derived.Test.YtgpljiijjnaofaaGreatDoorIUnion
import Derived.Test.YtgpljiijjnaofaaGreatDoorQTB
import Derived.Deep.RegionHeld3
import Derived.Test.YtgpljiijjnaofaaGreatDoorX0A
import Derived.Test.YtgpljiijjnaofaaGreatDoorX0C
set_option maxHeartbeats 8000000
set_option maxRecDepth 100000
open Go.Lib (hid)
open Nat (le_refl)
namespace Go.Proofs.YtgpljiijjnaofaaGreatDoor
open Go.RowKit
namespace Wp
def fillV (U:Nat→Value) (z:Value) (n k:Nat):Array Value:=((List.range n).map fun i=>if i<k then U i else z).toArray
theorem D6_ (U:Nat→Value) (z:Value) (n k:Nat):(fillV U z n k).size=n:=by simp [fillV]
theorem A1_ {U:Nat→Value} {z:Value} {n k i:Nat} (h:i<n):(fillV U z n k)[i]?=some (if i<k then U i else z):=by simp [fillV,h]
theorem Zv4 {U:Nat→Value} {z:Value} {n k:Nat}:(fillV U z n k).setIfInBounds k (U k)=fillV U z n (k+1):=by
 apply Array.ext
 ·rw [Array.size_setIfInBounds,D6_,D6_]
 ·intro i c d
  rw [Array.size_setIfInBounds,D6_] at c;have a:(fillV U z n (k+1))[i]?=some (if i<k+1 then U i else z):=A1_ c;have b:(fillV U z n k)[i]?=some (if i<k then U i else z):=A1_ c;rw [Array.getElem?_eq_getElem (by rw [D6_];exact c)] at a b;injection a with a;injection b with b;rw [a,Array.getElem_setIfInBounds]
  ·split
   ·rename_i e;subst e;rw [if_pos k30_]
   ·rename_i e
    rw [b];by_cases h:i<k
    ·rw [if_pos h,if_pos k30_]
    ·rw [if_neg h,if_neg k30_]
  ·rw [D6_];exact c
theorem Vy8 {w:World} {g n sz:Nat} {t:TypeId} {L:List Value} (h:w.ownsRow g t sz (.slice (some ⟨g,0,none⟩) n n) n L):Blk w g t L.toArray:=by
 rcases h.2 with ⟨e,_⟩ | ⟨m,k,c,j,hb,f,o,p,h3,d⟩
 ·cases e
 ·injection j with e1 _ e3
  injection e1 with e1;injection e1 with e1;subst e1 e3;unfold Blk;rw [f];have hc:c.toList=L:=by
   rw [← d,List.take_of_length_le];rw [Array.length_toList,h3];exact le_refl _
  rw [← hc]
theorem Zb1 {w:World} {g n sz:Nat} {t:TypeId} {z:Value} {cs:Array Value} (h:w.ownsRow g t sz (.slice (some ⟨g,0,none⟩) n n) n (madeCells cs (n * sz)).toList) (d:∀ i,i<n * sz→(madeCells cs (n * sz))[i]?=some z) (hs:(madeCells cs (n * sz)).size=n * sz) (U:Nat→Value):Blk w g t (fillV U z (n * sz) 0):=by
 have c:=Vy8 h;rw [Array.toArray_toList] at c;have e:madeCells cs (n * sz)=fillV U z (n * sz) 0:=by
  apply Array.ext
  ·rw [hs,D6_]
  ·intro i a b
   have x:=d i k30_;have y:(fillV U z (n * sz) 0)[i]?=_:=A1_ k30_;rw [if_neg k30_] at y;rw [Array.getElem?_eq_getElem a] at x;rw [Array.getElem?_eq_getElem b] at y;exact Option.some.inj (x.trans y.symm)
 rw [← e];exact c
theorem Ya6 {w:World} {g n:Nat} {t:TypeId} {z:Value} (d:z.cells=#[z]) (h:w.ownsRow g t 1 (.slice (some ⟨g,0,none⟩) n n) n (madeCells z.cells n).toList) (U:Nat→Value):Blk w g t (fillV U z n 0):=by
 have c:w.ownsRow g t 1 (.slice (some ⟨g,0,none⟩) n n) n (madeCells z.cells (n * 1)).toList:=by rw [Nat.mul_one];exact h
 have:=Zb1 (z:=z) c (fun i hi=>by unfold madeCells;rw [d,Array.getElem?_map,Array.getElem?_range,if_pos hi];simp [Nat.mod_one]) (by simp [madeCells]) U
 rwa [Nat.mul_one] at this
theorem Yz5:(Tryz.prog.info? 26).map (fun i=>(i.zero,i.size,i.bytes))=some (some (.slice none 0 0),1,24):=q31_
theorem Ve2:(Tryz.prog.info? 103).map (fun i=>(i.zero,i.size,i.bytes))=some (some (.agg #[.int .i64 0,.int .i64 0]),2,16):=q31_
theorem add_g (g k:Nat):(⟨g,0,none⟩:Addr).add k=⟨g,k,none⟩:=j39_
def I2_ (l:List (List Int)) (s:List Int):List (List Int):=s.map fun x=>l.getD x.toNat []
def Yh0 (w:World) (l:List (List Int)) (e:Ending) (w':World):Prop:=∃ u,e=.returned u∧Rows2 w' w'.heap.size u l∧Below w.heap.size w w'
theorem Zb2 (v Z:Value) (l:List (List Int)) (s:List Int) (w:World) (hv:Rows2 w w.heap.size v l) (hr:Row w w.heap.size Z s) (hs:∀ k,k<s.length→0≤s.getD k 0∧s.getD k 0<(l.length:Int)) (hl:l.length≤1000) (xc:s.length≤64) :
  Calls Tryz.prog 158 #[v,Z] w (Yh0 w (I2_ l s)):=by
 obtain ⟨Al,cl,rfl,m,Q⟩:=hv;obtain ⟨As,cs,rfl,o,R⟩:=hr;have x:∀ j,∃ u,j<l.length→∃ d:Addr,Al=some d∧d.block<w.heap.size∧w.cell? (d.add j)=some u∧Row w w.heap.size u (l.getD j []):=fun j=>by
  by_cases h:j<l.length
  ·obtain ⟨d,u,h1,h2,h3,h4⟩:=Q j h
   exact ⟨u,fun _=>⟨d,h1,h2,h3,h4⟩⟩
  ·exact ⟨.nilIface,fun h'=>absurd h' h⟩
 obtain ⟨V,x⟩:=Classical.axiomOfChoice x;have I:=hid x;have L:=hid hs;have x0:=hid R;have x9:(l.length:Int)≤1000:=k30_;have xb:(s.length:Int)≤64:=k30_;obtain ⟨U,N⟩:∃ U:Nat→Value,U=fun k=>V (s.getD k 0).toNat:=⟨_,rfl⟩;have H:=hid N;obtain ⟨i0,hi,x6,x7,hz2⟩:=info_parts Yz5;clear Q R m o x hs N
 go_enter Tryz.func158,Tryz.ntmps158
 go_wp2_with (at_make;refine wpList_make_full w rfl _ _ 22 rfl w.heap.size 26 i0 (.slice none 0 0) 1 q31_ hi x6 x7 .i64 .i64 _ _ s.length rfl rfl k32_ k32_ x38_ j32_ (le_refl _) ?_)
 intro w1 T P;have c:=Ya6 (z:=.slice none 0 0) rfl T U;have O:Below w.heap.size w w1:=(Below.refl _ w).grown P (le_refl _) (fun i hi=>by cases hi);have K:=hid c;have J:=hid O;clear T P c O;go_wp2
 go_loopw [13] (fun G wr=>∃ k:Nat,G=.int .i64 k∧k≤s.length∧Blk wr w.heap.size 26 (fillV U (.slice none 0 0) s.length k)∧Below w.heap.size w wr) (fun G _=>s.length - (intOf G).toNat)
 case atStart=>exact ⟨0,rfl,Nat.zero_le _,K.out,J.out⟩
 case round =>
  obtain ⟨k,rfl,hk,c,g⟩:=hrel;have B:=hid c;have r:=hid g;clear K J;by_cases E:k<s.length
  ·have xa:(k:Int)<(s.length:Int):=by omega
   have F:=L.out k E;obtain ⟨X,D⟩:∃ X:Nat,s.getD k 0=(X:Int):=⟨(s.getD k 0).toNat,k30_⟩;obtain ⟨x1,hA,hasb,o⟩:=x0.out k E;subst hA;rw [D] at F o;have x2:X<l.length:=k30_;have x8:(X:Int)<(l.length:Int):=k30_;obtain ⟨al,hA,halb,m,x5⟩:=I.out X x2;subst hA;obtain ⟨Ay,cy,q,_⟩:=x5;obtain ⟨W,S⟩:∃ W,(l.getD X []).length=W:=⟨_,rfl⟩;rw [S] at q;have gs:=(g.cell (p:=x1.add k) z37_).trans o;have M:=(g.cell (p:=al.add X) j34_).trans m;have C:U k=V X:=by rw [H.out];show V (s.getD k 0).toNat=V X;rw [D];rfl
   rw [← C] at M;have gf:=c.frozen k;obtain ⟨Y,gc⟩:∃ Y,wr.cell? ⟨w.heap.size,k,none⟩=some Y:=⟨_,by rw [c.cell];exact A1_ E⟩;rw [← C] at q;have Hy:=hid q;rw [q] at M;clear c g o m D F C q S;go_wp2
   go_roundw
   case rel=>exact ⟨k+1,z32_,k30_,by rw [← Zv4,Hy.out];exact B.out.set_ k _,r.out.setCell (by exact le_refl _) _⟩
   case measure=>simp [intOf];omega
  ·have x3:k=s.length:=by omega
   subst x3;clear c g;go_wp2;go_ret;refine ⟨_,rfl,⟨some ⟨w.heap.size,0,none⟩,s.length,by simp [I2_],⟨by simp [I2_],by unfold maxLen;omega,fun e=>by cases e⟩,fun j hj=>?_⟩,r.out⟩;have y:j<s.length:=by simpa [I2_] using hj
   have F:=L.out j y;obtain ⟨al,hA,halb,m,x4⟩:=I.out (s.getD j 0).toNat k30_;refine ⟨⟨w.heap.size,0,none⟩,U j,rfl,B.out.lt,?_,?_⟩
   ·rw [add_g,B.out.cell,A1_ y,if_pos y]
   ·rw [H.out,show (I2_ l s).getD j []=l.getD (s.getD j 0).toNat [] by simp [I2_,List.getD,y]]
    exact (x4.below r.out).mono r.out.size
def Zb3 (l:List (List Int)) (s:List Int):List (Int × Int):=s.map fun x=>((l.getD x.toNat []).getD 0 0,(l.getD x.toNat []).getD 1 0)
def Yh1 (w:World) (l:List (Int × Int)) (e:Ending) (w':World):Prop:=∃ u,e=.returned u∧Edges w' w'.heap.size u l∧Below w.heap.size w w'
def edgU (E:List (Int × Int)) (j:Nat):Value:=if j % 2=0 then .int .i64 (E.getD (j / 2) (0,0)).1 else .int .i64 (E.getD (j / 2) (0,0)).2
theorem Xs5 (E:List (Int × Int)) (k:Nat):edgU E (k * 2)=.int .i64 (E.getD k (0,0)).1:=by
 unfold edgU;rw [if_pos k30_,Nat.mul_div_cancel _ z31_]
theorem Xs6 (E:List (Int × Int)) (k:Nat):edgU E (k * 2+1)=.int .i64 (E.getD k (0,0)).2:=by
 unfold edgU;rw [if_neg k30_,show (k * 2+1) / 2=k by omega]
theorem Xh6 {w:World} {g n:Nat} {t:TypeId} (h:w.ownsRow g t 2 (.slice (some ⟨g,0,none⟩) n n) n (madeCells (Value.agg #[.int .i64 0,.int .i64 0]).cells (n * 2)).toList) (U:Nat→Value):Blk w g t (fillV U (.int .i64 0) (n * 2) 0):=by
 refine Zb1 h (fun i hi=>?_) (by simp [madeCells]) U;have e:(Value.agg #[.int .i64 0,.int .i64 0]).cells=#[.int .i64 0,.int .i64 0]:=rfl;rw [e];unfold madeCells;rw [Array.getElem?_map,Array.getElem?_range,if_pos hi];have c:i % 2=0∨i % 2=1:=k30_;rcases c with c | c<;>simp [c]
theorem Ve3 (d:Addr) (c:Nat) (w:World):(Instr.arrayAt 103 (.slice (some d) 2 c)).run Tryz.prog w=.ok (.pointer (some d)) w:=q31_
theorem Yu8 (v sv:Value) (l:List (List Int)) (s:List Int) (w:World) (hv:Rows2 w w.heap.size v l) (hr:Row w w.heap.size sv s) (hs:∀ k,k<s.length→0≤s.getD k 0∧s.getD k 0<(l.length:Int)) (N:∀ i,i<l.length→(l.getD i []).length=2) (hl:l.length≤1000) (xi:s.length≤64) :
  Calls Tryz.prog 155 #[v,sv] w (Yh1 w (Zb3 l s)):=by
 obtain ⟨Al,cl,rfl,h,U⟩:=hv;obtain ⟨As,cs,rfl,m,V⟩:=hr;have x2:=hid U;have Hs:=hid hs;have H2:=hid N;have x3:=hid V;have xf:(l.length:Int)≤1000:=k30_;have xh:(s.length:Int)≤64:=k30_;obtain ⟨E,G⟩:∃ E,E=Zb3 l s:=⟨_,rfl⟩;have J:=hid G;rw [← G];obtain ⟨i0,hi,x7,x8,hz2⟩:=info_parts Ve2;clear U V h m hs N G
 go_enter Tryz.func155,Tryz.ntmps155
 go_wp2_with (at_make;refine wpList_make_full w rfl _ _ 102 rfl w.heap.size 103 i0 (.agg #[.int .i64 0,.int .i64 0]) 2 q31_ hi x7 x8 .i64 .i64 _ _ s.length rfl rfl k32_ k32_ x38_ j32_ (le_refl _) ?_)
 intro w1 Y T;have d:=Xh6 Y (edgU E);have S:Below w.heap.size w w1:=(Below.refl _ w).grown T (le_refl _) (fun i hi=>by cases hi);have L:=hid d;have K:=hid S;clear Y T d S;go_wp2
 go_loopw [13] (fun I wr=>∃ k:Nat,I=.int .i64 k∧k≤s.length∧Blk wr w.heap.size 103 (fillV (edgU E) (.int .i64 0) (s.length * 2) (k * 2))∧Below w.heap.size w wr) (fun I _=>s.length - (intOf I).toNat)
 case atStart=>exact ⟨0,rfl,Nat.zero_le _,L.out,K.out⟩
 case round =>
  obtain ⟨k,rfl,hk,d,g⟩:=hrel;have o:=hid d;have M:=hid g;clear L K;by_cases C:k<s.length
  ·have xg:(k:Int)<(s.length:Int):=by omega
   have Z:=Hs.out k C;obtain ⟨X,x⟩:∃ X:Nat,s.getD k 0=(X:Int):=⟨(s.getD k 0).toNat,k30_⟩;obtain ⟨x4,hA,hasb,m⟩:=x3.out k C;subst hA;have r:E.getD k (0,0)=((l.getD X []).getD 0 0,(l.getD X []).getD 1 0):=by
    rw [J.out];have:(s.getD k 0)=s[k]:=by simp [List.getD,C]
    rw [this] at x;simp [Zb3,List.getD,C,x]
   rw [x] at Z m;have Q:X<l.length:=k30_;have xd:(X:Int)<(l.length:Int):=k30_;obtain ⟨al,u,hA,halb,h,x6⟩:=x2.out X Q;subst hA;have O:=H2.out X Q;generalize l.getD X []=z at *
   obtain ⟨p,q,rfl⟩:∃ p q,z=[p,q]:=by
    match z,O with
    | [p,q],_=>exact ⟨p,q,rfl⟩
   obtain ⟨Az,cz,rfl,_,H⟩:=x6;obtain ⟨c,hA,R,y⟩:=H 0 y31_;subst hA;obtain ⟨x9,hA,_,B⟩:=H 1 y31_;obtain rfl:=Option.some.inj hA;rw [add_zero] at y;rw [show c.add 1=(⟨c.block,c.off+1,none⟩:Addr) by simp [Addr.add]] at B;change w.cell? c=some (.int .i64 p) at y;change w.cell? ⟨c.block,c.off+1,none⟩=some (.int .i64 q) at B;rw [show ([p,q]:List Int).length=2 from rfl] at h;change E.getD k (0,0)=(p,q) at r;have gs:=(g.cell (p:=x4.add k) z37_).trans m;have gl:=(g.cell (p:=al.add X) j34_).trans h;have g0:=(g.cell (p:=c) R).trans y;have g1:=(g.cell (p:=⟨c.block,c.off+1,none⟩) R).trans B;have xb:=d.frozen (k * 2);have xc:=d.frozen (k * 2+1);obtain ⟨D,gc⟩:∃ D,wr.cell? ⟨w.heap.size,k * 2,none⟩=some D:=⟨_,by rw [d.cell];exact A1_ k30_⟩;obtain ⟨xj,xa⟩:∃ D,wr.cell? ⟨w.heap.size,k * 2+1,none⟩=some D:=⟨_,by rw [d.cell];exact A1_ k30_⟩;have ha:=fun W=>Ve3 c cz W;have x0:Hid (edgU E (k * 2)=.int .i64 p):=hid (by rw [Xs5,r]);have x1:Hid (edgU E (k * 2+1)=.int .i64 q):=hid (by rw [Xs6,r]);clear d g m h x Z y B r H O;go_wp2
   go_roundw
   case rel =>
    refine ⟨k+1,z32_,k30_,?_,(M.out.setCell (by exact le_refl _) _).setCell (by exact le_refl _) _⟩;rw [show (k+1) * 2=k * 2+1+1 by omega,← Zv4,← Zv4,x0.out,x1.out];exact (o.out.set_ _ _).set_ _ _
   case measure=>simp [intOf];omega
  ·have x5:k=s.length:=by omega
   subst x5;clear d g;have P:E.length=s.length:=by rw [J.out];simp [Zb3]
   have F:=hid P;clear P;go_wp2;go_ret;refine ⟨_,rfl,⟨some ⟨w.heap.size,0,none⟩,s.length,by rw [F.out];rfl,⟨by rw [F.out];exact le_refl _,by unfold maxLen;omega,fun e=>by cases e⟩,fun j hj=>?_⟩,M.out⟩;have xe:j<s.length:=by have:=F.out;omega
   refine ⟨⟨w.heap.size,0,none⟩,rfl,o.out.lt,?_,?_⟩
   ·rw [add_g,o.out.cell,A1_ k30_,if_pos k30_,Xs5]
   ·rw [add_g]
    show World.cell? _ ⟨w.heap.size,j * 2+1,none⟩=_;rw [o.out.cell,A1_ k30_,if_pos k30_,Xs6]
open Go.RowKit
theorem Yu9 (zs:List Int) (j:Nat) (x:Int):(ints zs).set j (.int .i64 x)=ints (zs.set j x):=by
 unfold ints;rw [List.map_set]
theorem Yw0 {A n:Nat} {cls most:Nat→Nat} {P:Nat→Bool} {x:Nat} (hc:cls x<A) (hx:x<n) (hp:P x=false):partR A n cls most (insP P x)=partR A n cls most P+if clsN n cls P (cls x)<most (cls x) then 1 else 0:=by
 refine Ze9 (b:=cls x) hc (fun c hne=>?_) ?_
 ·exact j19_
 ·show min _ _=min _ _+_
  rw [N3_ hx hp,if_pos rfl];split<;>omega
theorem Yw1 {n:Nat} {s:List Int} (h:InN n s) {k:Nat} (d:k<s.length):memP (s.take (k+1))=insP (memP (s.take k)) (s.getD k 0).toNat∧memP (s.take k) (s.getD k 0).toNat=false:=by
 have o:=h.2 _ (Y4_ 0 d);have e:s.getD k 0=s[k]:=by simp [List.getD,d]
 constructor
 ·funext i
  rw [Bool.eq_iff_iff,memP_iff,List.take_succ_eq_append_getElem d,List.mem_append,List.mem_singleton];unfold insP;rw [Bool.or_eq_true,beq_iff_eq,memP_iff,← e];constructor
  ·rintro (c | c)
   ·exact .inr c
   ·left;omega
  ·rintro (c | c)
   ·right;omega
   ·exact .inl c
 ·rw [← Bool.not_eq_true,memP_iff,show (((s.getD k 0).toNat:Nat):Int)=s.getD k 0 by omega]
  intro m;obtain ⟨j,f,g⟩:=List.mem_iff_getElem.1 m;rw [List.length_take] at f;rw [List.getElem_take,e] at g;have:=List.pairwise_iff_getElem.1 h.1.1 j k k30_ d k30_;omega
def roomL (A n:Nat) (cls most:Nat→Nat) (P:Nat→Bool):List Int:=(List.range A).map fun c=>((most c - clsN n cls P c:Nat):Int)
theorem K8_ (A n:Nat) (cls most:Nat→Nat) (P:Nat→Bool):(roomL A n cls most P).length=A:=by simp [roomL]
theorem Zn7 {A n:Nat} {cls most:Nat→Nat} {P:Nat→Bool} {c:Nat} (hc:c<A):(roomL A n cls most P).getD c 0=((most c - clsN n cls P c:Nat):Int):=by simp [roomL,List.getD,hc]
theorem Xh7 {A n:Nat} {cls most:Nat→Nat} {P:Nat→Bool} {x:Nat} (f:x<n) (d:P x=false) (h:¬ clsN n cls P (cls x)<most (cls x)):roomL A n cls most (insP P x)=roomL A n cls most P:=by
 unfold roomL;refine List.map_congr_left fun c _=>?_;rw [N3_ f d];by_cases e:cls x=c
 ·subst e;rw [if_pos rfl];omega
 ·rw [if_neg e,Nat.add_zero]
theorem Yw2 {A n:Nat} {cls most:Nat→Nat} {P:Nat→Bool} {x:Nat} (f:x<n) (d:P x=false) (h:clsN n cls P (cls x)<most (cls x)):(roomL A n cls most P).set (cls x) (((most (cls x) - clsN n cls P (cls x):Nat):Int) - 1)=roomL A n cls most (insP P x):=by
 apply List.ext_getElem
 ·simp [roomL]
 ·intro c g j
  rw [List.getElem_set];simp only [roomL,List.getElem_map,List.getElem_range];rw [N3_ f d];by_cases e:cls x=c
  ·subst e;rw [if_pos rfl,if_pos rfl];omega
  ·rw [if_neg e,if_neg e,Nat.add_zero]
theorem Yh2 (A n:Nat) (cls most:Nat→Nat):partR A n cls most noneP=0:=k13_
theorem Yw3 {A n:Nat} {cls most:Nat→Nat} (hc:∀ i,i<n→cls i<A) (P:Nat→Bool):partR A n cls most P≤n:=Nat.le_trans ((Yr0 hc).le_cnt P) (F0_ P n)
theorem Zg1 (vc z sv:Value) (h d s:List Int) (n A:Nat) (w:World) (hc:Row w w.heap.size vc h) (hm:Row w w.heap.size z d) (hr:Row w w.heap.size sv s) (R:InN n s) (h1:h.length=n) (N:d.length=A) (h3:∀ i,i<n→0≤h.getD i 0∧h.getD i 0<(A:Int)) (O:∀ i,i<A→0≤d.getD i 0∧d.getD i 0<65) (hn:n≤64) (hA:A≤64) :
  Calls Tryz.prog 156 #[vc,z,sv] w (Tells w (partR A n (fun i=>(h.getD i 0).toNat) (fun c=>(d.getD c 0).toNat) (memP s):Nat)):=by
 obtain ⟨cls,T⟩:∃ cls:Nat→Nat,cls=fun i=>(h.getD i 0).toNat:=⟨_,rfl⟩;obtain ⟨most,H⟩:∃ most:Nat→Nat,most=fun c=>(d.getD c 0).toNat:=⟨_,rfl⟩;rw [← T,← H];have x2:Hid (∀ i,i<n→h.getD i 0=(cls i:Int)∧cls i<A):=hid fun i hi=>by have:=h3 i hi;rw [T];show h.getD i 0=(((h.getD i 0).toNat:Nat):Int)∧(h.getD i 0).toNat<A;omega
 have x1:=hid (L.clone_any z d w hm k30_);have x6:d=roomL A n cls most noneP:=by
  apply List.ext_getElem
  ·rw [K8_,N]
  ·intro c a b
   have x8:c<A:=k30_;have:=O c x8;have e1:d.getD c 0=d[c]:=by simp [List.getD,a]
   have e2:(roomL A n cls most noneP).getD c 0=(roomL A n cls most noneP)[c]:=by simp [List.getD,b]
   rw [← e1,← e2,Zn7 x8,H];unfold clsN;rw [show (fun i=>noneP i && cls i==c)=noneP from by funext i;simp [noneP],B3_];show d.getD c 0=(((d.getD c 0).toNat - 0:Nat):Int);omega
 have xc:=hid x6;have HS:=hid R;have xg:Hid (∀ c,c<A→most c≤64):=hid fun c hc=>by have:=O c hc;rw [H];show (d.getD c 0).toNat≤64;omega
 have xz:s.length≤n:=by rw [V2_ R];exact F0_ _ _
 have xy:(s.length:Int)≤64:=k30_;have xa:∀ P,partR A n cls most P≤64:=fun P=>Nat.le_trans (Yw3 (fun i hi=>(x2.out i hi).2) P) hn;have xh:=hid xa;have xq:=hid N;obtain ⟨Ac,cc,rfl,_,x9⟩:=hc;obtain ⟨Am,cm,rfl,_⟩:=hm;obtain ⟨As,cs,rfl,_,xb⟩:=hr;have xf:=hid x9;have xi:=hid xb;have xw:(h.length:Int)≤64:=k30_;have x3:=hid h1;clear x9 xb h3 O T H xa R x6 h1 N
 go_enter Tryz.func156,Tryz.ntmps156
 go_wp2_with fail
 refine (x1.out).mono ?_;rintro e w1 ⟨u,rfl,j,x7⟩;rw [xc.out,K8_] at j;have m:=hid j;have x0:=hid x7;clear j x7 x1;go_wp2
 go_loopw [7,15] (fun z vk wr=>∃ k:Nat,vk=.int .i64 k∧k≤s.length∧z=.int .i64 (partR A n cls most (memP (s.take k)):Nat)∧wr.ownsRow w.heap.size 3 1 u A (ints (roomL A n cls most (memP (s.take k))))∧Below w.heap.size w wr) (fun _ vk _=>s.length - (intOf vk).toNat)
 case atStart=>exact ⟨0,rfl,Nat.zero_le _,by rw [List.take_zero,Zf5,Yh2];rfl,by rw [List.take_zero,Zf5];exact m.out,x0.out⟩
 case round =>
  obtain ⟨k,rfl,hk,rfl,j,x⟩:=hrel;have Hbr:=hid x;clear m x0;by_cases V:k<s.length
  ·have xx:(k:Int)<(s.length:Int):=by omega
   obtain ⟨G,o⟩:=Yw1 HS.out V;have hx:=HS.out.2 _ (Y4_ 0 V);obtain ⟨X,hX⟩:∃ X:Nat,s.getD k 0=(X:Int):=⟨(s.getD k 0).toNat,k30_⟩;obtain ⟨xj,xk,hasb,U⟩:=xi.out k V;subst xk;rw [hX] at hx U G o;rw [show ((X:Int)).toNat=X from rfl] at G o;have F:X<n:=k30_;obtain ⟨ac,xl,xn,S⟩:=xf.out X (by have:=x3.out;omega);subst xl;obtain ⟨hC,E⟩:=x2.out X F;rw [hC] at S;have xv:(X:Int)<(h.length:Int):=by have:=x3.out;omega
   have xr:(cls X:Int)<(A:Int):=k30_;obtain ⟨g,cu,hu,xo⟩:=P5_ j k30_;subst hu;have gs:=(x.cell (p:=xj.add k) z37_).trans U;have gc:=(x.cell (p:=ac.add X) (by rw [Z2_];exact xn)).trans S;have gr:wr.cell? ⟨g,cls X,none⟩=some (.int .i64 ((most (cls X) - clsN n cls (memP (s.take k)) (cls X):Nat):Int)):=by
    rw [j.cellAt (cls X) k30_];have:(cls X)<(roomL A n cls most (memP (s.take k))).length:=by rw [K8_];exact E
    rw [show (ints (roomL A n cls most (memP (s.take k))))[cls X]?=some (.int .i64 ((roomL A n cls most (memP (s.take k))).getD (cls X) 0)) by simp [ints,List.getD,this],Zn7 E]
   have gf:=j.frozenAt (cls X);have Y:=Yw0 (cls:=cls) (most:=most) E F o;have Z:=Yw2 (A:=A) (cls:=cls) (most:=most) F o;have W:=Xh7 (A:=A) (cls:=cls) (most:=most) F o;have xt:=xg.out _ E;have xm:=xh.out (memP (s.take k));rw [← G] at Y Z W;have r:=hid Y;have K:=hid Z;have I:=hid W;have m:=hid j;generalize clsN n cls (memP (s.take k)) (cls X)=q at *
   generalize most (cls X)=M at *
   generalize cls X=C at *
   clear Y Z W G o j x U S hX hx hC;obtain ⟨v,x5⟩:∃ v,partR A n cls most (memP (s.take k))=v:=⟨_,rfl⟩;rw [x5] at r xm ⊢;have xu:(v:Int)≤64:=k30_;clear x5;by_cases y:q<M
   ·have Q:(0:Int)<((M - q:Nat):Int):=by omega
    have xs:((M - q:Nat):Int)≤64:=k30_;have J:Hid (partR A n cls most (memP (s.take (k+1)))=v+1):=hid (by rw [r.out,if_pos y]);have B:=hid (K.out y);generalize ((M - q:Nat):Int)=D at *
    have hw:IntKind.i64.wrap (D - 1)=D - 1:=k31_;have x4:=hid (m.out.stored C (.int .i64 (D - 1)));rw [Yu9,B.out] at x4;have xe:=hid (Hbr.out.setCell (p:=⟨g,C,none⟩) xo (.int .i64 (D - 1)));clear m Hbr K I r B y;go_wp2
    go_roundw
    case rel=>exact ⟨k+1,z32_,k30_,by rw [J.out];go_num,x4.out.1,xe.out⟩
    case measure=>simp [intOf];omega
   ·have Q:(M - q:Nat)=0:=by omega
    have J:Hid (partR A n cls most (memP (s.take (k+1)))=v):=hid (by rw [r.out,if_neg y,Nat.add_zero]);have B:=hid (I.out y);rw [Q] at gr;change wr.cell? ⟨g,C,none⟩=some (.int .i64 0) at gr;clear K I r Q;go_wp2
    go_roundw
    case rel=>exact ⟨k+1,z32_,k30_,by rw [J.out],by rw [B.out];exact m.out,Hbr.out⟩
    case measure=>simp [intOf];omega
  ·have xp:k=s.length:=by omega
   subst xp;have xd:Hid (s.take s.length=s):=hid (List.take_length);rw [xd.out];clear j x;exact x11_
def betB (f n x:Int):Bool:=decide (f≤x) && decide (x<f+n)
def betL (s:List Int) (f n:Int):List Int:=(s.filter (betB f n)).map fun x=>x - f
theorem Yw4 {s:List Int} {f n:Int} {k:Nat} (c:k<s.length):betL (s.take (k+1)) f n=betL (s.take k) f n ++ if betB f n (s.getD k 0)=true then [s.getD k 0 - f] else []:=by
 unfold betL;rw [List.take_succ_eq_append_getElem c,List.filter_append,List.map_append,show s[k]=s.getD k 0 by simp [List.getD,c]];congr 1;generalize s.getD k 0=x;by_cases h:betB f n x=true
 ·simp [h]
 ·simp [h]
theorem Yz6 (s:List Int) (f n:Int):(betL s f n).length≤s.length:=by
 unfold betL;rw [List.length_map];exact List.length_filter_le _ _
theorem Yz7 (v:Value) (s:List Int) (f n:Int) (w:World) (G:Row w w.heap.size v s) (hs:∀ k,k<s.length→0≤s.getD k 0∧s.getD k 0≤64) (K:0≤f∧f≤1000) (N:0≤n∧n≤1000) (P:s.length≤64) :
  Calls Tryz.prog 174 #[v,.int .i64 f,.int .i64 n] w (Gives w (betL s f n)):=by
 obtain ⟨J,cs,rfl,_,u⟩:=G;have B:=hid u;have z:=hid hs;have O:(s.length:Int)≤64:=k30_;have R:IntKind.i64.wrap (f+n)=f+n:=k31_;have r:w.ownsRow w.heap.size 3 1 (.slice none 0 0) ([]:List Int).length (ints []):=World.ownsRow_nil _ _ _ _;clear u hs
 go_enter Tryz.func174,Tryz.ntmps174
 go_wp2
 go_loopw [7,12] (fun I e wr=>∃ k:Nat,e=.int .i64 k∧k≤s.length∧wr.ownsRow w.heap.size 3 1 I (betL (s.take k) f n).length (ints (betL (s.take k) f n))∧Below w.heap.size w wr) (fun _ e _=>s.length - (intOf e).toNat)
 case atStart=>exact ⟨0,rfl,Nat.zero_le _,r,Below.refl _ _⟩
 case round =>
  obtain ⟨k,rfl,L,hown,hbr⟩:=hrel;clear r;by_cases d:k<s.length
  ·have M:(k:Int)<(s.length:Int):=by omega
   have S:=z.out k d;obtain ⟨C,hA,hasb,m⟩:=B.out k d;subst hA;have gs:=(hbr.cell (p:=C.add k) z37_).trans m;have o:=Yw4 (f:=f) (n:=n) d;have D:=Yz6 (s.take k) f n;rw [List.length_take] at D;generalize s.getD k 0=x at *
   have c:=hid o;clear m o;by_cases g:f≤x
   ·by_cases h:x<f+n
    ·have Q:IntKind.i64.wrap (x - f)=x - f:=by rw [IntKind.wrap_i64];omega
     have Hm:Hid (betL (s.take (k+1)) f n=betL (s.take k) f n ++ [x - f]):=hid (by rw [c.out,if_pos (by unfold betB;rw [decide_eq_true g,decide_eq_true h];rfl)])
     go_wp2_with (at_builtin;refine Y6_ rfl _ _ rfl w.heap.size _ _ _ (betL (s.take k) f n) [x - f] rfl rfl (hown.alloc _) (Row.lit1 _ (x - f)) k30_ y31_ x34_ ?_)
     intro H y q E;have j:Below w.heap.size wr y:=((Below.refl _ wr).alloc hbr.size _).grown E x34_ (fun i hi=>(hown.lt i hi).1);have Hown6:Hid (y.ownsRow w.heap.size 3 1 H (betL (s.take (k+1)) f n).length (ints (betL (s.take (k+1)) f n))):=hid (by rw [Hm.out,List.length_append];exact q);have Hb6:=hid (hbr.trans j);clear q j hown hbr;go_wp2
     go_roundw
     case rel=>exact ⟨k+1,z32_,k30_,Hown6.out,Hb6.out⟩
     case measure=>simp [intOf];omega
    ·have Hm:Hid (betL (s.take (k+1)) f n=betL (s.take k) f n):=hid (by rw [c.out,if_neg (by unfold betB;rw [decide_eq_false h,Bool.and_false];decide),List.append_nil])
     exact q8_
   ·have Hm:Hid (betL (s.take (k+1)) f n=betL (s.take k) f n):=hid (by rw [c.out,if_neg (by unfold betB;rw [decide_eq_false g,Bool.false_and];decide),List.append_nil])
    exact q8_
  ·have F:k=s.length:=by omega
   subst F;rw [List.take_length] at hown;go_wp2;go_ret;exact ⟨_,rfl,Row.of_own hown rfl,hbr⟩
end Wp
end Go.Proofs.YtgpljiijjnaofaaGreatDoor
namespace Go.Proofs.YtgpljiijjnaofaaGreatDoor.Wp
open Go Go.RowKit
theorem Yh3 {m:Mat} {s:List Int} (h:chk m=0) (f:m.t=1) (hs:InN (nN m) s):Zb3 m.l s=castE (edgP (nN m) (edgOf m) (memP s)):=by
 obtain ⟨_,j,d⟩:=P0_ h f;have o:=Y7_ h;have e:Zb3 m.l s=(pickN (nN m) (memP s)).map fun i=>((m.l.getD i []).getD 0 0,(m.l.getD i []).getD 1 0):=Zf6 hs fun i=>((m.l.getD i []).getD 0 0,(m.l.getD i []).getD 1 0);rw [e];unfold castE edgP;rw [List.map_map];refine List.map_congr_left fun i hi=>?_;have k:=(mem_pick.1 hi).1;obtain ⟨g,c⟩:=d i k30_;have a:=c 0 k30_;have b:=c 1 k30_;show _=((((m.l.getD i []).getD 0 0).toNat:Int),(((m.l.getD i []).getD 1 0).toNat:Int));rw [Int.toNat_of_nonneg a.1,Int.toNat_of_nonneg b.1]
theorem Yw5 {m:Mat} {s:List Int} (h:chk m=0) (d:m.t=1):Lies m.a.toNat (edgP (nN m) (edgOf m) (memP s)):=by
 obtain ⟨_,e,h2⟩:=P0_ h d;have g:=Y7_ h;intro c hc;obtain ⟨i,hi,rfl⟩:=List.mem_map.1 hc;have f:=(mem_pick.1 hi).1;exact k7_
theorem N6_ (n:Nat) (P:Nat→Bool):(pickN n P).length≤n:=F0_ P n
theorem Zv5 {n:Nat} {l:List (List Int)} {s:List Int} (hs:InN n s):I2_ l s=(pickN n (memP s)).map fun i=>l.getD i []:=Zf6 hs fun i=>l.getD i []
theorem mayK (r:Int) (a:List (List Int)):K.mayM r a=mayM r a:=rfl
theorem elimK (p r:Int) (a:List (List Int)):L.elimB p r a=elimB p r a:=rfl
theorem Zb4 {n:Nat} {l:List (List Int)} {P:Nat→Bool} (hl:l.length=n) {z:List Int} (c:z∈(pickN n P).map fun i=>l.getD i []):z∈l:=by
 obtain ⟨i,hi,rfl⟩:=List.mem_map.1 c;exact Y4_ [] (by have:=(mem_pick.1 hi).1;omega)
theorem Yh4 {r:Int} {n:Nat} {l:List (List Int)} {P:Nat→Bool} (h:mayM r l=true) (hl:l.length=n):mayM r ((pickN n P).map fun i=>l.getD i [])=true:=by
 unfold mayM at h ⊢;simp only [Bool.and_eq_true,decide_eq_true_iff,List.all_eq_true] at h ⊢;exact z17_
theorem Yz8 {p r:Int} {n:Nat} {l:List (List Int)} {P:Nat→Bool} (h:elimB p r l=true) (hl:l.length=n):elimB p r ((pickN n P).map fun i=>l.getD i [])=true:=by
 unfold elimB at h ⊢;simp only [Bool.and_eq_true,decide_eq_true_iff,Bool.not_eq_true',List.any_eq_false] at h ⊢;exact z17_
theorem Xh8 {n R:Nat} {l:List (List Int)} {P:Nat→Bool} {adj:List (List Int)} (y:adj=(pickN n P).map fun i=>l.getD i []) {k:Nat} (h:K.Big R adj k):covR n R (fun i r=>(r:Int)∈l.getD i []) P=k:=by
 have D:adj.length=(pickN n P).length:=by rw [y,List.length_map]
 have w:∀ j,j<adj.length→adj.getD j []=l.getD ((pickN n P).getD j 0) []∧(pickN n P).getD j 0∈pickN n P:=fun j d=>by
  rw [D] at d;refine ⟨?_,Y4_ 0 d⟩;rw [y];simp [List.getD,d]
 have L:∀ i j,i<adj.length→j<adj.length→(pickN n P).getD i 0=(pickN n P).getD j 0→i=j:=fun i j hi d e=>by
  rw [D] at hi d;have g:=List.pairwise_iff_getElem.1 (Zx5 n P);rw [show (pickN n P).getD i 0=(pickN n P)[i] by simp [List.getD,hi],show (pickN n P).getD j 0=(pickN n P)[j] by simp [List.getD,d]] at e;rcases Nat.lt_trichotomy i j with c | c | c
  ·have:=g i j hi d c;omega
  ·exact c
  ·have:=g j i d hi c;omega
 obtain ⟨⟨U,G,V⟩,A,B,I,M⟩:=h;refine Nat.le_antisymm ?_ ?_
 ·refine N4_ ⟨fun i=>(List.range adj.length).any fun j=>A j && (pickN n P).getD j 0==i,B,fun i r hi g u=>?_,?_⟩
  ·obtain ⟨j,d,o⟩:=List.mem_iff_getElem.1 (mem_pick.2 ⟨hi,g⟩)
   have C:j<adj.length:=k30_;have e:(pickN n P).getD j 0=i:=by rw [show (pickN n P).getD j 0=(pickN n P)[j] by simp [List.getD,d],o]
   rcases I j r (show (r:Int)∈adj.getD j [] by rw [(w j C).1,e];exact u) with c | c
   ·left
    rw [List.any_eq_true];exact ⟨j,List.mem_range.2 C,by rw [c,e];simp⟩
   ·exact .inr c
  ·have H:∀ i,∃ j,((List.range adj.length).any fun j=>A j && (pickN n P).getD j 0==i)=true→j<adj.length∧A j=true∧(pickN n P).getD j 0=i:=fun i=>by
    by_cases hb:((List.range adj.length).any fun j=>A j && (pickN n P).getD j 0==i)=true
    ·obtain ⟨j,d,o⟩:=List.any_eq_true.1 hb
     rw [Bool.and_eq_true,beq_iff_eq] at o;exact ⟨j,fun _=>⟨List.mem_range.1 d,o.1,o.2⟩⟩
    ·exact ⟨0,fun F=>absurd F hb⟩
   obtain ⟨f,s⟩:=Classical.axiomOfChoice H;have:=K.cntP_inj (n:=n) (R:=adj.length) (p:=fun i=>(List.range adj.length).any fun j=>A j && (pickN n P).getD j 0==i) (q:=A) f (fun i _ g=>⟨(s i g).1,(s i g).2.1⟩) (fun i j _ _ g N e=>by rw [← (s i g).2.2,e];exact (s j N).2.2);exact Nat.le_trans (Nat.add_le_add_right this _) M
 ·obtain ⟨m,v,hc,T⟩:=M1_ n R (fun i r=>(r:Int)∈l.getD i []) P
  have J:K.Cov adj (fun j=>m ((pickN n P).getD j 0)) v:=fun j r u=>by
   have d:=K.goes_lt u;obtain ⟨E,x⟩:=w j d;have z:(r:Int)∈adj.getD j []:=u;rw [E] at z;exact hc _ r (mem_pick.1 x).1 (mem_pick.1 x).2 z
  have O:=K.mat_le_cov G J;have Q:=K.cntP_inj (n:=adj.length) (R:=n) (p:=fun j=>m ((pickN n P).getD j 0)) (q:=m) (fun j=>(pickN n P).getD j 0) (fun j d g=>⟨(mem_pick.1 (w j d).2).1,g⟩) (fun i j hi d _ _ e=>L i j hi d e);have h3:K.cntP n m=cnt m n:=rfl;have S:K.cntP R v=cnt v R:=rfl;omega
theorem Ve4 {p a:Int} {n:Nat} {l:List (List Int)} {P:Nat→Bool} {cols:List (List Int)} (g:cols=(pickN n P).map fun i=>l.getD i []) (h:L.elimB p a cols=true):L.rankI p a cols=(linR p a.toNat n (fun i=>L.vec (l.getD i [])) P:Nat):=by
 obtain ⟨c,R,f,_,_,hc⟩:=L.elimB_in h;unfold L.rankI;rw [if_pos h,f,Int.toNat_natCast];have e:=congrArg List.length (L.linesI_lines c hc).pl;rw [List.length_map] at e;have d:=L.rk_cols (R:=R) (L.fld_ok c) cols;rw [e,← d];unfold linR vecP;rw [g,List.map_map];rfl
end Go.Proofs.YtgpljiijjnaofaaGreatDoor.Wp
namespace Go.Proofs.YtgpljiijjnaofaaGreatDoor
open Go.RowKit
namespace Wp
theorem S3_ {n:Nat} {s:List Int} (h:InN n s) {k:Nat} (c:k<s.length):0≤s.getD k 0∧s.getD k 0<(n:Int):=h.2 _ (Y4_ 0 c)
theorem X1_ {n:Nat} {s:List Int} (h:InN n s):s.length≤n:=by rw [V2_ h];exact F0_ _ _
def Zb5 (E:Nat→Addr) (k:Nat):Prop:=∀ (m:Mat) (v sv:Value) (s:List Int) (w:World),MatV w w.heap.size v m→Sml m→chk m=0→dp 4 m≤k→Row w w.heap.size sv s→InN (nN m) s→Env E w→Calls Tryz.prog 132 #[v,sv] w (Tells w (rkP k m (memP s):Nat))
theorem Ve5 (E:Nat→Addr) (k:Nat) (m:Mat) (v I:Value) (s:List Int) (w:World) (y:MatV w w.heap.size v m) (_hs:Sml m) (hc:chk m=0) (x:Row w w.heap.size I s) (c:InN (nN m) s) (H:Env E w) (ht:m.t=0):Calls Tryz.prog 132 #[v,I] w (Tells w (rkP (k+1) m (memP s):Nat)):=by
 rw [rkP_0 ht,← V2_ c];have J:=hid c;have T:=X1_ c;have Q:=(Y7_ hc).2;have S:(s.length:Int)≤64:=k30_;have R:s.length≤1048576:=k30_;obtain ⟨V,U,rfl,u,r⟩:=y.open;obtain ⟨g,p,rfl,_⟩:=id u;obtain ⟨d,o,rfl,_⟩:=id r;obtain ⟨L,cs,rfl,_⟩:=id x;have Hb0:=hid (Z1_ w m (.slice g m.l.length p) (.slice d m.i.length o));have h:=hid (Z3_ w m (.slice g m.l.length p) (.slice d m.i.length o));have D:=hid (x.up Hb0.out);have C:=hid (u.up Hb0.out);have B:=hid (r.up Hb0.out);have F:=hid (y.up Hb0.out);have z:=hid (H.up Hb0.out);unfold boxed at *
 have q:=h.out.cell;obtain ⟨j,hW0⟩:∃ j,j=w.alloc (.cells #[.int .i64 m.t,.int .i64 m.n,.int .i64 m.a,.int .i64 m.b,.slice g m.l.length p,.slice d m.i.length o] 25):=⟨_,rfl⟩;have HW0:=hid hW0;have P:w.heap.size<j.heap.size:=q33_;rw [← hW0] at Hb0 D C B F z q h;have M:(m.t==0)=true:=y37_;clear ht;have N:=q 2;have ha:=chk_a hc;clear J D C B F z y x H q h u r c;by_cases O:m.a≤(s.length:Int)
 ·have e:min m.a.toNat s.length=m.a.toNat:=by omega
  have G:((m.a.toNat:Nat):Int)=m.a:=k30_;have K:min m.a (s.length:Int)=m.a:=k30_;rw [e,G];clear e G;exact j13_
 ·have e:min m.a.toNat s.length=s.length:=by omega
  have K:min m.a (s.length:Int)=(s.length:Int):=k30_;rw [e];clear e;exact j13_
theorem Ve6 (E:Nat→Addr) (k:Nat) (m:Mat) (v sv:Value) (s:List Int) (w:World) (N:MatV w w.heap.size v m) (_hs:Sml m) (hc:chk m=0) (L:Row w w.heap.size sv s) (r:InN (nN m) s) (Q:Env E w) (ht:m.t=1):Calls Tryz.prog 132 #[v,sv] w (Tells w (rkP (k+1) m (memP s):Nat)):=by
 rw [rkP_1 ht];have X:=P0_ hc ht;have ha:=chk_a hc;have U:=Yh3 hc ht r;have K:=Yw5 (s:=s) hc ht;have xb:=Y7_ hc;have P:∀ i,i<m.l.length→(m.l.getD i []).length=2:=fun i hi=>by have:=(X.2.2 i hi).1;omega
 have Z:∀ j,j<s.length→0≤s.getD j 0∧s.getD j 0<(m.l.length:Int):=fun j hj=>by have:=S3_ r hj;omega
 have xa:m.l.length≤1000:=k30_;have V:(edgP (nN m) (edgOf m) (memP s)).length≤4096:=by unfold edgP;rw [List.length_map];have:=N6_ (nN m) (memP s);omega
 obtain ⟨A,hA⟩:∃ A:Nat,m.a=(A:Int):=⟨m.a.toNat,k30_⟩;rw [hA,Int.toNat_natCast] at K;have x8:1≤A:=k30_;have x9:A≤64:=k30_;have x6:Hid ((O5_ A (nN m) (edgOf m) (memP s):Nat)=rankN A (edgP (nN m) (edgOf m) (memP s))):=hid (by unfold O5_ rankN;have:=Zl4 A (edgP (nN m) (edgOf m) (memP s));omega);rw [hA,Int.toNat_natCast];have HS:=hid r;have xf:=X1_ r;have xc:=(Y7_ hc).2;have xe:(s.length:Int)≤64:=k30_;have xd:s.length≤1048576:=k30_;obtain ⟨lv,iv,rfl,J,I⟩:=N.open;obtain ⟨o,q,rfl,_⟩:=id J;obtain ⟨D,H,rfl,_⟩:=id I;obtain ⟨As,cs,rfl,_⟩:=id L;have g:=hid (Z1_ w m (.slice o m.l.length q) (.slice D m.i.length H));have F:=hid (Z3_ w m (.slice o m.l.length q) (.slice D m.i.length H));have z:=hid (L.up g.out);have y:=hid (J.up g.out);have x:=hid (I.up g.out);have B:=hid (N.up g.out);have u:=hid (Q.up g.out);unfold boxed at *
 have C:=F.out.cell;obtain ⟨c,hW0⟩:∃ c,c=w.alloc (.cells #[.int .i64 m.t,.int .i64 m.n,.int .i64 m.a,.int .i64 m.b,.slice o m.l.length q,.slice D m.i.length H] 25):=⟨_,rfl⟩;have x0:=hid hW0;have Y:w.heap.size<c.heap.size:=q33_;rw [← hW0] at g z y x B u C F;have d0:(m.t==0)=false:=j31_;have d1:(m.t==1)=true:=y37_;clear ht;have O:Hid (∀ W,Below c.drew.heap.size c.drew W→W.cell? ⟨w.heap.size,2,none⟩=some (.int .i64 m.a)∧W.cell? ⟨w.heap.size,4,none⟩=some (.slice o m.l.length q)):=hid fun W R=>⟨(R.cell (p:=⟨w.heap.size,2,none⟩) Y).trans (C 2),(R.cell (p:=⟨w.heap.size,4,none⟩) Y).trans (C 4)⟩;have d:Hid (Below c.drew.heap.size c.drew c.drew):=hid (Below.refl _ _);have h:=(Below.refl c.heap.size c).drew;replace z:=hid (z.out.up h);replace y:=hid (y.out.up h);replace x:=hid (x.out.up h);replace B:=hid (B.out.up h);replace u:=hid (u.out.up h);clear C F h;have x2:=hid U;have x4:=hid K;have H2:=hid P;have x7:=hid Z;have x3:=hid V;rw [hA] at O;have HA:=hid hA;generalize edgP (nN m) (edgOf m) (memP s)=ns at *
 generalize O5_ A (nN m) (edgOf m) (memP s)=G at *
 clear N L Q J I r hA X ha U K xb P Z V x B u
 go_enter Tryz.func132,Tryz.ntmps132
 go_wp2;rw [← x0.out];clear hW0;rw [HA.out]
 go_region_held3 (fun W=>W.cell? ⟨w.heap.size,2,none⟩=some (.int .i64 (A:Int))∧W.cell? ⟨w.heap.size,4,none⟩=some (.slice o m.l.length q))
  (exact O.out _ d.out)
  (first
  | (go_at_call 155;refine (Yu8 _ _ m.l s _ y.out z.out x7.out H2.out xa k30_).mono ?_;rintro e w1 ⟨v1,rfl,M,S⟩;rw [x2.out] at M;replace d:=hid (Z0_ d.out (le_refl _) S);have x5:=hid M;clear M S)
  | (go_at_call 154;refine (Xv7 A _ ns _ x5.out x8 x9 x3.out x4.out).mono ?_;rintro e w2 ⟨rfl,T⟩;replace d:=hid (Z0_ d.out (le_refl _) T);clear T))
 all_goals
  have x1:=hid (Z0_ g.out.drew (le_refl _) d.out);clear d;go_simp;go_wp2;go_ret;exact ⟨by rw [← x6.out];rfl,x1.out⟩
theorem Ve7 (E:Nat→Addr) (k:Nat) (m:Mat) (v sv:Value) (s:List Int) (w:World) (O:MatV w w.heap.size v m) (_hs:Sml m) (hc:chk m=0) (N:Row w w.heap.size sv s) (F:InN (nN m) s) (V:Env E w) (ht:m.t=2):Calls Tryz.prog 132 #[v,sv] w (Tells w (rkP (k+1) m (memP s):Nat)):=by
 rw [rkP_2 ht];obtain ⟨p1,p2,p3,p4,p5⟩:=Ya2 hc ht;have ha:=chk_a hc;have xe:=Y7_ hc;obtain ⟨A,hA⟩:∃ A:Nat,m.a=(A:Int):=⟨m.a.toNat,k30_⟩;rw [hA,Int.toNat_natCast];have HS:=hid F;have xo:=X1_ F;have xd:=(Y7_ hc).2;have xn:(s.length:Int)≤64:=k30_;have xm:s.length≤1048576:=k30_;obtain ⟨lv,iv,rfl,L,K⟩:=O.open;obtain ⟨z,q,rfl,_⟩:=id L;obtain ⟨y,C,rfl,_⟩:=id K;obtain ⟨As,cs,rfl,_⟩:=id N;have h:=hid (Z1_ w m (.slice z m.l.length q) (.slice y m.i.length C));have B:=hid (Z3_ w m (.slice z m.l.length q) (.slice y m.i.length C));have x:=hid (N.up h.out);have R:=hid (L.up h.out);have Q:=hid (K.up h.out);have S:=hid (O.up h.out);have P:=hid (V.up h.out);unfold boxed at *
 have D:=B.out.cell;obtain ⟨g,hW0⟩:∃ g,g=w.alloc (.cells #[.int .i64 m.t,.int .i64 m.n,.int .i64 m.a,.int .i64 m.b,.slice z m.l.length q,.slice y m.i.length C] 25):=⟨_,rfl⟩;have x5:=hid hW0;have xc:w.heap.size<g.heap.size:=q33_;rw [← hW0] at h x R Q S P D B;have d0:(m.t==0)=false:=j31_;have d1:(m.t==1)=false:=j31_;have d2:(m.t==2)=true:=y37_;clear ht;have o:Hid ((row m 0).length=nN m∧(row m 1).length=A∧(∀ i,i<nN m→0≤(row m 0).getD i 0∧(row m 0).getD i 0<(A:Int))∧(∀ i,i<A→0≤(row m 1).getD i 0∧(row m 1).getD i 0<65)∧A≤64):=hid ⟨k30_,k30_,fun i hi=>by have:=p4 i k30_;omega,fun i hi=>p5 i k30_,k30_⟩;have xb:m.l.length=2:=p1;obtain ⟨xf,xh,he,_,M⟩:=L;injection he with he1 he2 he3;subst he1 he3;obtain ⟨d,r,x9,X,I,x1⟩:=M 0 k30_;subst x9;obtain ⟨xg,u,xa,_,J,x2⟩:=M 1 k30_;obtain rfl:=Option.some.inj xa;rw [add_zero] at I;rw [show d.add 1=(⟨d.block,d.off+1,none⟩:Addr) by simp [Addr.add]] at J;have x3:Hid (Row g.drew g.drew.heap.size r (row m 0)):=hid ((x1.up h.out).up (Below.refl _ _).drew);have x4:Hid (Row g.drew g.drew.heap.size u (row m 1)):=hid ((x2.up h.out).up (Below.refl _ _).drew);have T:=(h.out.cell (p:=d) X).trans I;have U:=(h.out.cell (p:=⟨d.block,d.off+1,none⟩) X).trans J;have Y:d.block<g.heap.size:=k30_;have xi:(0:Int)<(m.l.length:Int):=k30_;have xj:(1:Int)<(m.l.length:Int):=k30_;have xk:0<m.l.length:=k30_;have xl:1<m.l.length:=k30_;have x0:=(Below.refl g.heap.size g).drew;replace x:=hid (x.out.up x0);have K1:Hid (∀ W,Below g.drew.heap.size g.drew W→W.cell? ⟨w.heap.size,4,none⟩=some (.slice (some d) m.l.length q)∧W.cell? d=some r∧W.cell? ⟨d.block,d.off+1,none⟩=some u):=hid fun W H=>⟨(H.cell (p:=⟨w.heap.size,4,none⟩) xc).trans (D 4),(H.cell (p:=d) Y).trans T,(H.cell (p:=⟨d.block,d.off+1,none⟩) Y).trans U⟩;have j:Hid (Below g.drew.heap.size g.drew g.drew):=hid (Below.refl _ _);have x8:Hid (partR A (nN m) (clsOf m) (Ya0 m) (memP s)=partR A (nN m) (fun i=>((row m 0).getD i 0).toNat) (fun c=>((row m 1).getD c 0).toNat) (memP s)):=hid rfl;have x7:=hid (fun (W:World) (q0:Row W W.heap.size r (row m 0)) (q1:Row W W.heap.size u (row m 1)) (q2:Row W W.heap.size (.slice As s.length cs) s)=>Zg1 r u _ (row m 0) (row m 1) s (nN m) A W q0 q1 q2 HS.out o.out.1 o.out.2.1 o.out.2.2.1 o.out.2.2.2.1 xd o.out.2.2.2.2);clear O N V K F hA p1 p2 p3 p4 p5 ha xe D B x0 T U I J x1 x2 M xb he2 R Q S P;generalize partR A (nN m) (clsOf m) (Ya0 m) (memP s)=G at *
 generalize partR A (nN m) (fun i=>((row m 0).getD i 0).toNat) (fun c=>((row m 1).getD c 0).toNat) (memP s)=G2 at *
 go_enter Tryz.func132,Tryz.ntmps132
 go_wp2;rw [← x5.out];clear hW0
 go_region_held3 (fun W=>W.cell? ⟨w.heap.size,4,none⟩=some (.slice (some d) m.l.length q)∧W.cell? d=some r∧W.cell? ⟨d.block,d.off+1,none⟩=some u)
  (exact K1.out _ j.out)
  (first
  | (go_at_call 156;refine (x7.out _ x3.out x4.out x.out).mono ?_;rintro e w2 ⟨rfl,Z⟩;replace j:=hid (Z0_ j.out (le_refl _) Z);clear Z))
 all_goals
  have x6:=hid (Z0_ h.out.drew (le_refl _) j.out);clear j;go_simp;go_wp2;go_ret;exact ⟨by rw [x8.out];rfl,x6.out⟩
theorem Ve8 (E:Nat→Addr) (k:Nat) (m:Mat) (v sv:Value) (s:List Int) (w:World) (R:MatV w w.heap.size v m) (_hs:Sml m) (hc:chk m=0) (P:Row w w.heap.size sv s) (x:InN (nN m) s) (U:Env E w) (ht:m.t=3):Calls Tryz.prog 132 #[v,sv] w (Tells w (rkP (k+1) m (memP s):Nat)):=by
 rw [rkP_3 ht];obtain ⟨p1,p2⟩:=Yt2 hc ht;have ha:=chk_a hc;have x9:=Y7_ hc;have x1:∀ j,j<s.length→0≤s.getD j 0∧s.getD j 0<(m.l.length:Int):=fun j hj=>by have:=S3_ x hj;omega
 have x8:m.l.length≤1000:=k30_;obtain ⟨adj,H⟩:∃ adj,adj=(pickN (nN m) (memP s)).map fun i=>m.l.getD i []:=⟨_,rfl⟩;have x5:Hid (I2_ m.l s=adj):=hid (by rw [H];exact Zv5 x);have S:Hid (K.mayM m.a adj=true):=hid (by rw [mayK,H];exact Yh4 p2 k30_);have x4:Hid (∀ (I:List Int) (q:Nat),((K.mayM m.a adj=false∧I=[]∧q=0)∨(K.mayM m.a adj=true∧∃ hs os,K.Great m.a.toNat adj hs os adj.length∧I=(List.range adj.length).map hs∧q=K.msize adj hs))→covR (nN m) m.a.toNat (Ya1 m) (memP s)=q):=hid fun I q h=>by
  rcases h with ⟨T,_⟩ | ⟨_,xb,xf,hg,_,e2⟩
  ·rw [S.out] at T;cases T
  ·rw [e2];exact Xh8 H (K.great_big hg (K.onR_of_may S.out))
 have HS:=hid x;have xe:=X1_ x;have xa:=(Y7_ hc).2;have xd:(s.length:Int)≤64:=k30_;have xc:s.length≤1048576:=k30_;obtain ⟨lv,iv,rfl,O,N⟩:=R.open;obtain ⟨r,u,rfl,_⟩:=id O;obtain ⟨J,M,rfl,_⟩:=id N;obtain ⟨As,cs,rfl,_⟩:=id P;have g:=hid (Z1_ w m (.slice r m.l.length u) (.slice J m.i.length M));have L:=hid (Z3_ w m (.slice r m.l.length u) (.slice J m.i.length M));have C:=hid (P.up g.out);have B:=hid (O.up g.out);have z:=hid (N.up g.out);have D:=hid (R.up g.out);have y:=hid (U.up g.out);unfold boxed at *
 have F:=L.out.cell;obtain ⟨c,hW0⟩:∃ c,c=w.alloc (.cells #[.int .i64 m.t,.int .i64 m.n,.int .i64 m.a,.int .i64 m.b,.slice r m.l.length u,.slice J m.i.length M] 25):=⟨_,rfl⟩;have x2:=hid hW0;have x0:w.heap.size<c.heap.size:=q33_;rw [← hW0] at g C B z D y F L;have d0:(m.t==0)=false:=j31_;have d1:(m.t==1)=false:=j31_;have d2:(m.t==2)=false:=j31_;have d3:(m.t==3)=true:=y37_;clear ht;have K1:Hid (∀ W,Below c.drew.heap.size c.drew W→W.cell? ⟨w.heap.size,2,none⟩=some (.int .i64 m.a)∧W.cell? ⟨w.heap.size,4,none⟩=some (.slice r m.l.length u)):=hid fun W V=>⟨(V.cell (p:=⟨w.heap.size,2,none⟩) x0).trans (F 2),(V.cell (p:=⟨w.heap.size,4,none⟩) x0).trans (F 4)⟩;have d:Hid (Below c.drew.heap.size c.drew c.drew):=hid (Below.refl _ _);have o:=(Below.refl c.heap.size c).drew;replace C:=hid (C.out.up o);replace B:=hid (B.out.up o);replace z:=hid (z.out.up o);replace D:=hid (D.out.up o);replace y:=hid (y.out.up o);clear F L o;have x7:=hid x1;generalize covR (nN m) m.a.toNat (Ya1 m) (memP s)=G at *
 clear R P U O N x p1 p2 ha x9 x1 z D y H
 go_enter Tryz.func132,Tryz.ntmps132
 go_wp2;rw [← x2.out];clear hW0
 go_region_held3 (fun W=>W.cell? ⟨w.heap.size,2,none⟩=some (.int .i64 m.a)∧W.cell? ⟨w.heap.size,4,none⟩=some (.slice r m.l.length u))
  (exact K1.out _ d.out)
  (first
  | (go_at_call 158;refine (Zb2 _ _ m.l s _ B.out C.out x7.out x8 k30_).mono ?_;rintro e w1 ⟨v1,rfl,Q,X⟩;rw [x5.out] at Q;replace d:=hid (Z0_ d.out (le_refl _) X);have x6:=hid Q;clear Q X)
  | (go_at_call 157;refine (K.max_any m.a _ adj _ x6.out).mono ?_;rintro e w2 ⟨v2,I,q,rfl,_,Y,Z⟩;replace d:=hid (Z0_ d.out (le_refl _) Y);have Hq:Hid (G=q):=hid (x4.out _ q Z);clear Z Y))
 all_goals
  have x3:=hid (Z0_ g.out.drew (le_refl _) d.out);clear d;go_simp;go_wp2;go_ret;exact ⟨by rw [Hq.out];rfl,x3.out⟩
theorem Ve9 (E:Nat→Addr) (k:Nat) (m:Mat) (v X:Value) (s:List Int) (w:World) (R:MatV w w.heap.size v m) (_hs:Sml m) (hc:chk m=0) (P:Row w w.heap.size X s) (x:InN (nN m) s) (S:Env E w) (ht:m.t=4):Calls Tryz.prog 132 #[v,X] w (Tells w (rkP (k+1) m (memP s):Nat)):=by
 rw [rkP_4 ht];obtain ⟨p1,V⟩:=Yt3 hc ht;have x5:=Y7_ hc;have U:∀ j,j<s.length→0≤s.getD j 0∧s.getD j 0<(m.l.length:Int):=fun j hj=>by have:=S3_ x hj;omega
 have x4:m.l.length≤1000:=k30_;obtain ⟨adj,D⟩:∃ adj,adj=(pickN (nN m) (memP s)).map fun i=>m.l.getD i []:=⟨_,rfl⟩;have x0:Hid (I2_ m.l s=adj):=hid (by rw [D];exact Zv5 x);have x2:Hid (L.rankI m.b m.a adj=(linR m.b m.a.toNat (nN m) (colOf m) (memP s):Nat)):=hid (Ve4 D (by rw [elimK,D];exact Yz8 V k30_));have HS:=hid x;have x9:=X1_ x;have x6:=(Y7_ hc).2;have x8:(s.length:Int)≤64:=k30_;have x7:s.length≤1048576:=k30_;obtain ⟨lv,iv,rfl,N,M⟩:=R.open;obtain ⟨q,r,rfl,_⟩:=id N;obtain ⟨F,I,rfl,_⟩:=id M;obtain ⟨As,cs,rfl,_⟩:=id P;have g:=hid (Z1_ w m (.slice q m.l.length r) (.slice F m.i.length I));have H:=hid (Z3_ w m (.slice q m.l.length r) (.slice F m.i.length I));have B:=hid (P.up g.out);have z:=hid (N.up g.out);have y:=hid (M.up g.out);have C:=hid (R.up g.out);have h:=hid (S.up g.out);unfold boxed at *
 have u:=H.out.cell;obtain ⟨c,hW0⟩:∃ c,c=w.alloc (.cells #[.int .i64 m.t,.int .i64 m.n,.int .i64 m.a,.int .i64 m.b,.slice q m.l.length r,.slice F m.i.length I] 25):=⟨_,rfl⟩;have Y:=hid hW0;have O:w.heap.size<c.heap.size:=q33_;rw [← hW0] at g B z y C h u H;have d0:(m.t==0)=false:=j31_;have d1:(m.t==1)=false:=j31_;have d2:(m.t==2)=false:=j31_;have d3:(m.t==3)=false:=j31_;have d4:(m.t==4)=true:=y37_;clear ht;have K1:Hid (∀ W,Below c.drew.heap.size c.drew W→W.cell? ⟨w.heap.size,2,none⟩=some (.int .i64 m.a)∧W.cell? ⟨w.heap.size,3,none⟩=some (.int .i64 m.b)∧W.cell? ⟨w.heap.size,4,none⟩=some (.slice q m.l.length r)):=hid fun W J=>⟨(J.cell (p:=⟨w.heap.size,2,none⟩) O).trans (u 2),(J.cell (p:=⟨w.heap.size,3,none⟩) O).trans (u 3),(J.cell (p:=⟨w.heap.size,4,none⟩) O).trans (u 4)⟩;have d:Hid (Below c.drew.heap.size c.drew c.drew):=hid (Below.refl _ _);have o:=(Below.refl c.heap.size c).drew;replace B:=hid (B.out.up o);replace z:=hid (z.out.up o);replace y:=hid (y.out.up o);replace C:=hid (C.out.up o);replace h:=hid (h.out.up o);clear u H o;have x3:=hid U;generalize linR m.b m.a.toNat (nN m) (colOf m) (memP s)=G at *
 clear R P S N M x p1 V x5 U y C D
 go_enter Tryz.func132,Tryz.ntmps132
 go_wp2;rw [← Y.out];clear hW0
 go_region_held3 (fun W=>W.cell? ⟨w.heap.size,2,none⟩=some (.int .i64 m.a)∧W.cell? ⟨w.heap.size,3,none⟩=some (.int .i64 m.b)∧W.cell? ⟨w.heap.size,4,none⟩=some (.slice q m.l.length r))
  (exact K1.out _ d.out)
  (first
  | (go_at_call 158;refine (Zb2 _ _ m.l s _ z.out B.out x3.out x4 k30_).mono ?_;rintro e w1 ⟨v1,rfl,Q,K⟩;rw [x0.out] at Q;replace d:=hid (Z0_ d.out (le_refl _) K);replace h:=hid (h.out.up K);have x1:=hid Q;clear Q K)
  | (go_at_call 159;refine (L.rank_any m.b m.a _ adj _ h.out.tab x1.out).mono ?_;rintro e w2 ⟨rfl,T⟩;rw [x2.out];replace d:=hid (Z0_ d.out (le_refl _) T);clear T))
 all_goals
  have Z:=hid (Z0_ g.out.drew (le_refl _) d.out);clear d;go_simp;go_wp2;go_ret;exact ⟨rfl,Z.out⟩
theorem W5_ (E:Nat→Addr) (_k:Nat) (m:Mat) (v d:Value) (s:List Int) (w:World) (D:MatV w w.heap.size v m) (_hs:Sml m) (hc:chk m=0) (C:Row w w.heap.size d s) (y:InN (nN m) s) (I:Env E w) (L:5≤m.t∧m.t≤8) (G:Nat) (o:∀ (v d:Value) (W:World),MatV W W.heap.size v m→Row W W.heap.size d s→Env E W→Calls Tryz.prog 161 #[v,d] W (Tells W (G:Int))):Calls Tryz.prog 132 #[v,d] w (Tells w (G:Int)):=by
 have o:=hid o;have N:=hid y;have Y:=X1_ y;have U:=(Y7_ hc).2;have X:(s.length:Int)≤64:=k30_;have V:s.length≤1048576:=k30_;obtain ⟨lv,Z,rfl,B,z⟩:=D.open;obtain ⟨h,x,rfl,_⟩:=id B;obtain ⟨g,u,rfl,_⟩:=id z;obtain ⟨M,cs,rfl,_⟩:=id C;have Hb0:=hid (Z1_ w m (.slice h m.l.length x) (.slice g m.i.length u));have k:=hid (Z3_ w m (.slice h m.l.length x) (.slice g m.i.length u));have p:=hid (C.up Hb0.out);have H:=hid (B.up Hb0.out);have F:=hid (z.up Hb0.out);have q:=hid (D.up Hb0.out);have j:=hid (I.up Hb0.out);unfold boxed at *
 have c:=k.out.cell;obtain ⟨r,hW0⟩:∃ r,r=w.alloc (.cells #[.int .i64 m.t,.int .i64 m.n,.int .i64 m.a,.int .i64 m.b,.slice h m.l.length x,.slice g m.i.length u] 25):=⟨_,rfl⟩;have J:=hid hW0;have K:w.heap.size<r.heap.size:=q33_;rw [← hW0] at Hb0 p H F q j c k;have O:(m.t==0)=false:=j31_;have P:(m.t==1)=false:=j31_;have Q:(m.t==2)=false:=j31_;have R:(m.t==3)=false:=j31_;have S:(m.t==4)=false:=j31_;have T:(m.t==9)=false:=j31_;clear L;have g0:=c 0;have g1:=c 1;have g2:=c 2;have g3:=c 3;have g4:=c 4;have g5:=c 5;clear D C I B z y F H c k
 go_enter Tryz.func132,Tryz.ntmps132
 rw [hW0] at g0 g1 g2 g3 g4 g5 q p j Hb0;clear hW0 J K
 go_wp2_with fail
 refine (o.out _ _ _ q.out p.out j.out).mono ?_;rintro e w1 ⟨rfl,hb1⟩;exact x26_
theorem Vf0 (E:Nat→Addr) (_k:Nat) (m:Mat) (v d:Value) (s:List Int) (w:World) (F:MatV w w.heap.size v m) (_hs:Sml m) (hc:chk m=0) (D:Row w w.heap.size d s) (z:InN (nN m) s) (M:Env E w) (ht:m.t=9) (G:Nat) (q:∀ (H d:Value) (W:World),MatL W W.heap.size H m.i→Row W W.heap.size d s→Env E W→Calls Tryz.prog 160 #[H,d] W (Tells W (G:Int))):Calls Tryz.prog 132 #[v,d] w (Tells w (G:Int)):=by
 have q:=hid q;have R:=hid z;have x2:=X1_ z;have Z:=(Y7_ hc).2;have x1:(s.length:Int)≤64:=k30_;have x0:s.length≤1048576:=k30_;obtain ⟨lv,H,rfl,C,B⟩:=F.open;obtain ⟨j,y,rfl,_⟩:=id C;obtain ⟨h,x,rfl,_⟩:=id B;obtain ⟨Q,cs,rfl,_⟩:=id D;have c:=hid (Z1_ w m (.slice j m.l.length y) (.slice h m.i.length x));have p:=hid (Z3_ w m (.slice j m.l.length y) (.slice h m.i.length x));have r:=hid (D.up c.out);have I:=hid (C.up c.out);have o:=hid (B.up c.out);have J:=hid (F.up c.out);have k:=hid (M.up c.out);unfold boxed at *
 have g:=p.out.cell;obtain ⟨u,hW0⟩:∃ u,u=w.alloc (.cells #[.int .i64 m.t,.int .i64 m.n,.int .i64 m.a,.int .i64 m.b,.slice j m.l.length y,.slice h m.i.length x] 25):=⟨_,rfl⟩;have O:=hid hW0;have P:w.heap.size<u.heap.size:=q33_;rw [← hW0] at c r I o J k g p;have S:(m.t==0)=false:=j31_;have T:(m.t==1)=false:=j31_;have U:(m.t==2)=false:=j31_;have V:(m.t==3)=false:=j31_;have X:(m.t==4)=false:=j31_;have Y:(m.t==9)=true:=y37_;clear ht;have K:=g 0;have L:=g 5;clear F D M C B z J I g p
 go_enter Tryz.func132,Tryz.ntmps132
 rw [hW0] at K L o r k c;clear hW0 O P
 go_wp2_with fail
 refine (q.out _ _ _ o.out r.out k.out).mono ?_;rintro e w1 ⟨rfl,N⟩;have Hb1:=hid (Z0_ c.out (le_refl _) N);clear N K L;exact j1_
open Go.RowKit
theorem one_7 (E:Nat→Addr) (k:Nat) (m:Mat) (v q:Value) (s:List Int) (w:World) (G:MatV w w.heap.size v m) (hs:Sml m) (hc:chk m=0) (D:Row w w.heap.size q s) (B:InN (nN m) s) (T:Env E w) (ih:Zb5 E k) (hd:dp 4 m≤k+1) (ht:m.t=7):Calls Tryz.prog 161 #[v,q] w (Tells w (rkP (k+1) m (memP s):Nat)):=by
 rw [rkP_7 ht];have xc:nN m=nN (inn m):=by unfold nN;rw [W3_ hc (.inl ht)]
 have ha:=chk_a hc;have HS:=hid B;have xw:=X1_ B;have xt:=(Y7_ hc).2;have xv:(s.length:Int)≤64:=k30_;have xu:s.length≤1048576:=k30_;obtain ⟨lv,iv,rfl,xa,V⟩:=G.open;obtain ⟨Al,cl,rfl,_⟩:=id xa;obtain ⟨I,ci,rfl,_⟩:=id V;obtain ⟨As,cs,rfl,_⟩:=id D;have d:=hid (Z1_ w m (.slice Al m.l.length cl) (.slice I m.i.length ci));have K:=hid (Z3_ w m (.slice Al m.l.length cl) (.slice I m.i.length ci));have x7:=hid (D.up d.out);have HL:=hid (xa.up d.out);have HI:=hid (V.up d.out);have Hv:=hid (G.up d.out);have HE:=hid (T.up d.out);unfold boxed at *
 have z:=K.out.cell;obtain ⟨P,hW0⟩:∃ P,P=w.alloc (.cells #[.int .i64 m.t,.int .i64 m.n,.int .i64 m.a,.int .i64 m.b,.slice Al m.l.length cl,.slice I m.i.length ci] 25):=⟨_,rfl⟩;have xe:=hid hW0;have xn:w.heap.size<P.heap.size:=q33_;rw [← hW0] at d x7 HL HI Hv HE z K;obtain ⟨q1,q2,q3⟩:=C2_ hc k30_;have xm:m.i.length=1:=by rw [q1];rfl
 obtain ⟨xo,xp,he,_,x9⟩:=V;injection he with he1 he2 he3;subst he1 he3;obtain ⟨ai,ui,xk,o,xb,u⟩:=x9 0 k30_;subst xk;rw [show (0:Nat) * 6=0 from rfl,add_zero] at xb;rw [show m.i.getD 0 default=inn m from rfl] at u;obtain ⟨lx,ix,Z,Y,X⟩:=u.open;obtain ⟨x0,x1,x2,x3,x4,x5,c,s0,s1,s2,s3,s4,s5⟩:=xb;rw [Z] at c;injection c with c;injection c with c;injection c with h0 c;injection c with Q c;injection c with S c;injection c with h3 c;injection c with h4 c;injection c with h5 _;subst h0 Q S h3 h4 h5;have F:=sml_i hs (X0_ m.i 0 default k30_);rw [show m.i.getD 0 default=inn m from rfl] at F;have xq:(0:Int)<(m.i.length:Int):=k30_;have xr:0<m.i.length:=k30_;obtain ⟨x,H⟩:∃ x,inn m=x:=⟨_,rfl⟩;simp only [H] at u Y X s0 s1 s2 s3 s4 s5 F q2 q3 Z ⊢;have Hx:=hid H;obtain ⟨Alx,clx,rfl,_⟩:=id Y;obtain ⟨Aix,cix,rfl,_⟩:=id X;subst Z;have t0:=(d.out.cell (p:=ai) o).trans s0;have t1:=(d.out.cell (p:=⟨ai.block,ai.off+1,none⟩) o).trans s1;have t2:=(d.out.cell (p:=⟨ai.block,ai.off+2,none⟩) o).trans s2;have t3:=(d.out.cell (p:=⟨ai.block,ai.off+3,none⟩) o).trans s3;have t4:=(d.out.cell (p:=⟨ai.block,ai.off+4,none⟩) o).trans s4;have t5:=(d.out.cell (p:=⟨ai.block,ai.off+5,none⟩) o).trans s5;have xi:=hid (u.up d.out);obtain ⟨h,hW1⟩:∃ h,h=(w.alloc (.cells #[.int .i64 m.t,.int .i64 m.n,.int .i64 m.a,.int .i64 m.b,.slice Al m.l.length cl,.slice (some ai) m.i.length ci] 25)).alloc (.cells #[.int .i64 x.t,.int .i64 x.n,.int .i64 x.a,.int .i64 x.b,.slice Alx x.l.length clx,.slice Aix x.i.length cix] 25):=⟨_,rfl⟩;have x6:=hid hW1;have r:Below w.heap.size w h:=by rw [hW1];exact ((Below.refl _ w).alloc (le_refl _) _).alloc y31_ _
 have xf:=hid r;have N:=hid (D.up r);have J:=hid (T.up r);have O:=hid (u.up r);have xj:=hid (G.up r);have L:Hid (Blk h w.heap.size 25 #[.int .i64 m.t,.int .i64 m.n,.int .i64 m.a,.int .i64 m.b,.slice Al m.l.length cl,.slice (some ai) m.i.length ci]):=hid j36_;have g:Hid (Blk h (w.heap.size+1) 25 #[.int .i64 x.t,.int .i64 x.n,.int .i64 x.a,.int .i64 x.b,.slice Alx x.l.length clx,.slice Aix x.i.length cix]):=hid q32_;have xd:Hid (InN (nN x) s):=hid (by rw [← H,← xc];exact B);have xl:dp 4 x≤k:=k30_;have d7:(m.t==7)=true:=y37_;clear ht xc;obtain ⟨R,U⟩:∃ R:Nat,rkP k x (memP s)=R:=⟨_,rfl⟩;have xh:Hid (∀ (v q:Value) (W:World),MatV W W.heap.size v x→Row W W.heap.size q s→Env E W→Calls Tryz.prog 132 #[v,q] W (Tells W (R:Int))):=hid fun v q W Q S h3=>by rw [← U];exact ih x v q s W Q F q2 xl S xd.out h3
 rw [U];obtain ⟨M,hM⟩:∃ M:Int,M=((min m.a.toNat R:Nat):Int):=⟨_,rfl⟩;have xs:min m.a (R:Int)=M:=k30_;rw [← hM];have C:=(Below.refl h.heap.size h).drew;replace N:=hid (N.out.up C);replace J:=hid (J.out.up C);replace O:=hid (O.out.up C);clear C;have K1:Hid (∀ W,Below h.drew.heap.size h.drew W→W.cell? ⟨w.heap.size,2,none⟩=some (.int .i64 m.a)∧W.cell? ⟨w.heap.size+1,0,none⟩=some (.int .i64 x.t)∧W.cell? ⟨w.heap.size+1,1,none⟩=some (.int .i64 x.n)∧W.cell? ⟨w.heap.size+1,2,none⟩=some (.int .i64 x.a)∧W.cell? ⟨w.heap.size+1,3,none⟩=some (.int .i64 x.b)∧W.cell? ⟨w.heap.size+1,4,none⟩=some (.slice Alx x.l.length clx)∧W.cell? ⟨w.heap.size+1,5,none⟩=some (.slice Aix x.i.length cix)):=hid fun W j=>⟨(L.out.drew.below j L.out.lt).cell 2,(g.out.drew.below j g.out.lt).cell 0,(g.out.drew.below j g.out.lt).cell 1,(g.out.drew.below j g.out.lt).cell 2,(g.out.drew.below j g.out.lt).cell 3,(g.out.drew.below j g.out.lt).cell 4,(g.out.drew.below j g.out.lt).cell 5⟩;have y:Hid (Below h.drew.heap.size h.drew h.drew):=hid (Below.refl _ _);clear Hv HL HE x7 K hs B xm x9 he2 Y X s0 s1 s2 s3 s4 s5 o H u q1 G D T U hM F ih ha HI xi
 go_enter Tryz.func161,Tryz.ntmps161
 rw [hW0] at d t0 t1 t2 t3 t4 t5 z;have g0:=z 0;have g5:=z 5;clear hW0 xe xn z hW1 r;go_wp2;rw [← x6.out];clear g0 g5 t0 t1 t2 t3 t4 t5 L g x6 d xj;generalize w.heap.size+1=B1 at *
 go_region_held3 (fun W=>W.cell? ⟨w.heap.size,2,none⟩=some (.int .i64 m.a)∧W.cell? ⟨B1,0,none⟩=some (.int .i64 x.t)∧W.cell? ⟨B1,1,none⟩=some (.int .i64 x.n)∧W.cell? ⟨B1,2,none⟩=some (.int .i64 x.a)∧W.cell? ⟨B1,3,none⟩=some (.int .i64 x.b)∧W.cell? ⟨B1,4,none⟩=some (.slice Alx x.l.length clx)∧W.cell? ⟨B1,5,none⟩=some (.slice Aix x.i.length cix))
  (exact K1.out _ y.out)
  (first
  | (go_at_call 132;refine (xh.out _ _ _ O.out N.out J.out).mono ?_;rintro e w2 ⟨rfl,x8⟩;replace y:=hid (Z0_ y.out (le_refl _) x8);clear x8))
 all_goals
  have xg:=hid (Z0_ xf.out.drew (le_refl _) y.out);clear y;go_simp;go_wp2;go_ret;exact ⟨rfl,xg.out⟩
theorem one_8 (E:Nat→Addr) (k:Nat) (m:Mat) (v o:Value) (s:List Int) (w:World) (hv:MatV w w.heap.size v m) (hs:Sml m) (hc:chk m=0) (hr:Row w w.heap.size o s) (F:InN (nN m) s) (hE:Env E w) (ih:Zb5 E k) (hd:dp 4 m≤k+1) (ht:m.t=8):Calls Tryz.prog 161 #[v,o] w (Tells w (rkP (k+1) m (memP s):Nat)):=by
 rw [rkP_8 ht];have K:nN m=nN (inn m):=by unfold nN;rw [W3_ hc (.inr ht)]
 have z:=chk_n hc;have HS:=hid F;have yd:=X1_ F;have yb:=(Y7_ hc).2;have yc:(s.length:Int)≤64:=k30_;have y5:s.length≤1048576:=k30_;obtain ⟨lv,iv,rfl,xj,xc⟩:=hv.open;obtain ⟨Al,cl,rfl,_⟩:=id xj;obtain ⟨Ai,ci,rfl,_⟩:=id xc;obtain ⟨As,cs,rfl,_⟩:=id hr;have d:=hid (Z1_ w m (.slice Al m.l.length cl) (.slice Ai m.i.length ci));have x7:=hid (Z3_ w m (.slice Al m.l.length cl) (.slice Ai m.i.length ci));have xg:=hid (hr.up d.out);have HL:=hid (xj.up d.out);have HI:=hid (xc.up d.out);have Hv:=hid (hv.up d.out);have HE:=hid (hE.up d.out);unfold boxed at *
 have T:=x7.out.cell;obtain ⟨W0,hW0⟩:∃ W0,W0=w.alloc (.cells #[.int .i64 m.t,.int .i64 m.n,.int .i64 m.a,.int .i64 m.b,.slice Al m.l.length cl,.slice Ai m.i.length ci] 25):=⟨_,rfl⟩;have xq:=hid hW0;have y4:w.heap.size<W0.heap.size:=q33_;rw [← hW0] at d xg HL HI Hv HE T x7;obtain ⟨q1,q2,q3⟩:=C2_ hc k30_;have y2:m.i.length=1:=by rw [q1];rfl
 obtain ⟨y7,y8,he,_,xi⟩:=xc;injection he with he1 he2 he3;subst he1 he3;obtain ⟨ai,ui,xz,G,xp,Q⟩:=xi 0 k30_;subst xz;rw [show (0:Nat) * 6=0 from rfl,add_zero] at xp;rw [show m.i.getD 0 default=inn m from rfl] at Q;obtain ⟨lx,ix,xf,xe,xd⟩:=Q.open;obtain ⟨x0,x1,x2,x3,x4,x5,c,s0,s1,s2,s3,s4,s5⟩:=xp;rw [xf] at c;injection c with c;injection c with c;injection c with h0 c;injection c with U c;injection c with V c;injection c with h3 c;injection c with h4 c;injection c with h5 _;subst h0 U V h3 h4 h5;have Y:=sml_i hs (X0_ m.i 0 default k30_);rw [show m.i.getD 0 default=inn m from rfl] at Y;have y9:(0:Int)<(m.i.length:Int):=k30_;have ya:0<m.i.length:=k30_;obtain ⟨x,B⟩:∃ x,inn m=x:=⟨_,rfl⟩;simp only [B] at Q xe xd s0 s1 s2 s3 s4 s5 Y q2 q3 xf ⊢;have Hx:=hid B;obtain ⟨Alx,clx,rfl,_⟩:=id xe;obtain ⟨Aix,cix,rfl,_⟩:=id xd;subst xf;have t0:=(d.out.cell (p:=ai) G).trans s0;have t1:=(d.out.cell (p:=⟨ai.block,ai.off+1,none⟩) G).trans s1;have t2:=(d.out.cell (p:=⟨ai.block,ai.off+2,none⟩) G).trans s2;have t3:=(d.out.cell (p:=⟨ai.block,ai.off+3,none⟩) G).trans s3;have t4:=(d.out.cell (p:=⟨ai.block,ai.off+4,none⟩) G).trans s4;have t5:=(d.out.cell (p:=⟨ai.block,ai.off+5,none⟩) G).trans s5;have xx:=hid (Q.up d.out);obtain ⟨S,hW1⟩:∃ S,S=(w.alloc (.cells #[.int .i64 m.t,.int .i64 m.n,.int .i64 m.a,.int .i64 m.b,.slice Al m.l.length cl,.slice (some ai) m.i.length ci] 25)).alloc (.cells #[.int .i64 x.t,.int .i64 x.n,.int .i64 x.a,.int .i64 x.b,.slice Alx x.l.length clx,.slice Aix x.i.length cix] 25):=⟨_,rfl⟩;have x6:=hid hW1;have O:Below w.heap.size w S:=by rw [hW1];exact ((Below.refl _ w).alloc (le_refl _) _).alloc y31_ _
 have xr:=hid O;have r:=hid (hr.up O);have h:=hid (hE.up O);have j:=hid (Q.up O);have xy:=hid (hv.up O);have Z:Hid (Blk S w.heap.size 25 #[.int .i64 m.t,.int .i64 m.n,.int .i64 m.a,.int .i64 m.b,.slice Al m.l.length cl,.slice (some ai) m.i.length ci]):=hid j36_;have x8:Hid (Blk S (w.heap.size+1) 25 #[.int .i64 x.t,.int .i64 x.n,.int .i64 x.a,.int .i64 x.b,.slice Alx x.l.length clx,.slice Aix x.i.length cix]):=hid q32_;have y0:InN (nN x) s:=by rw [← B,← K];exact F
 have xb:dp 4 x≤k:=k30_;have d7:(m.t==7)=false:=j31_;have d8:(m.t==8)=true:=y37_;clear ht;have xo:InN (nN x) (Z4_ (allL m.n) s):=by rw [← B,← K];exact D2_ z.1 z.2 F.1
 have xh:InN (nN x) (allL m.n):=by rw [← B,← K];exact Yt0 z.1 z.2
 have J:=rk_ok k x q2 xb;have e1:rkP k x (memP (Z4_ (allL m.n) s))=rkP k x (notP (memP s)):=J.ext fun i hi=>O9_ z.1 z.2 F.1 (by rw [← B,← K] at hi;exact hi);have e2:rkP k x (memP (allL m.n))=rkP k x allP:=J.ext fun i hi=>Xg2 z.1 z.2 (by rw [← B,← K] at hi;exact hi);have b1:=J.le_cnt (notP (memP s));have b2:=J.le_cnt allP;have b3:=F0_ (notP (memP s)) (nN x);have b4:=F0_ allP (nN x);have b5:=J.submod (notP (memP s)) (memP s);have b6:=J.le_cnt (memP s);rw [show orP (notP (memP s)) (memP s)=allP from by funext i;simp only [orP,notP,allP];cases memP s i<;>rfl] at b5;have xk:=V2_ F;have xl:nN m=nN x:=by rw [← B];exact K
 rw [← xl] at b6;obtain ⟨u,x9⟩:∃ u:Nat,rkP k x (notP (memP s))=u:=⟨_,rfl⟩;obtain ⟨C,xa⟩:∃ C:Nat,rkP k x allP=C:=⟨_,rfl⟩;rw [x9,xa,← xk];rw [x9] at e1 b1 b5;rw [xa] at e2 b2 b5;have xv:Hid (∀ (v o:Value) (W:World),MatV W W.heap.size v x→Row W W.heap.size o (Z4_ (allL m.n) s)→Env E W→Calls Tryz.prog 132 #[v,o] W (Tells W (u:Int))):=hid fun v o W U V h3=>by rw [← e1];exact ih x v o _ W U Y q2 xb V xo h3
 have xw:Hid (∀ (v o:Value) (W:World),MatV W W.heap.size v x→Row W W.heap.size o (allL m.n)→Env E W→Calls Tryz.prog 132 #[v,o] W (Tells W (C:Int))):=hid fun v o W U V h3=>by rw [← e2];exact ih x v o _ W U Y q2 xb V xh h3
 have y3:C≤s.length+u:=k30_;have ye:IntKind.i64.wrap ((s.length:Int)+(u:Int))=(s.length:Int)+(u:Int):=k31_;have yf:IntKind.i64.wrap ((s.length:Int)+(u:Int) - (C:Int))=(s.length:Int)+(u:Int) - (C:Int):=k31_;obtain ⟨M,hM⟩:∃ M:Int,M=((s.length+u - C:Nat):Int):=⟨_,rfl⟩;have HM:Hid ((s.length:Int)+(u:Int) - (C:Int)=M):=hid k30_;rw [← hM];have y1:=G1_ m.n;have gn:=Z.out.cell 1;clear e1 e2 b1 b2 b3 b4 b5 b6 xk xl x9 xa hM J xo xh y0 K;clear Hv HL HE xg x7 hs F y2 xi he2 xe xd s0 s1 s2 s3 s4 s5 G B Q q1 hv hr hE Y ih HI xx y3 z
 go_enter Tryz.func161,Tryz.ntmps161
 rw [hW0] at d t0 t1 t2 t3 t4 t5 T;have g0:=T 0;have g5:=T 5;clear hW0 xq y4 T hW1 O;rw [x6.out] at gn
 go_wp2_with fail
 refine (I4_ m.n _).mono ?_;rintro e L ⟨va,rfl,xn,D⟩;rw [← x6.out] at D;have xs:=hid (Z0_ xr.out (le_refl _) D);have xu:=hid (Z.out.below D Z.out.lt);have g:=hid (x8.out.below D x8.out.lt);replace r:=hid (r.out.up D);replace h:=hid (h.out.up D);replace j:=hid (j.out.up D);have q:=hid xn;clear D xn gn g0 g5 t0 t1 t2 t3 t4 t5 Z x8;obtain ⟨Aa,ca,y6,_⟩:=id q.out;subst y6;go_wp2;have X:=(Below.refl L.heap.size L).drew;replace r:=hid (r.out.up X);replace h:=hid (h.out.up X);replace j:=hid (j.out.up X);replace q:=hid (q.out.up X);clear X;have K1:Hid (∀ W,Below L.drew.heap.size L.drew W→W.cell? ⟨w.heap.size+1,0,none⟩=some (.int .i64 x.t)∧W.cell? ⟨w.heap.size+1,1,none⟩=some (.int .i64 x.n)∧W.cell? ⟨w.heap.size+1,2,none⟩=some (.int .i64 x.a)∧W.cell? ⟨w.heap.size+1,3,none⟩=some (.int .i64 x.b)∧W.cell? ⟨w.heap.size+1,4,none⟩=some (.slice Alx x.l.length clx)∧W.cell? ⟨w.heap.size+1,5,none⟩=some (.slice Aix x.i.length cix)):=hid fun W N=>⟨(g.out.drew.below N g.out.lt).cell 0,(g.out.drew.below N g.out.lt).cell 1,(g.out.drew.below N g.out.lt).cell 2,(g.out.drew.below N g.out.lt).cell 3,(g.out.drew.below N g.out.lt).cell 4,(g.out.drew.below N g.out.lt).cell 5⟩;have y:Hid (Below L.drew.heap.size L.drew L.drew):=hid (Below.refl _ _);clear x6 xu g d xy;generalize w.heap.size+1=B1 at *
 go_region_held3 (fun W=>W.cell? ⟨B1,0,none⟩=some (.int .i64 x.t)∧W.cell? ⟨B1,1,none⟩=some (.int .i64 x.n)∧W.cell? ⟨B1,2,none⟩=some (.int .i64 x.a)∧W.cell? ⟨B1,3,none⟩=some (.int .i64 x.b)∧W.cell? ⟨B1,4,none⟩=some (.slice Alx x.l.length clx)∧W.cell? ⟨B1,5,none⟩=some (.slice Aix x.i.length cix))
  (exact K1.out _ y.out)
  (first
  | (go_at_call 67;refine (E5_ _ _ (allL m.n) s _ q.out r.out y1 y5).mono ?_;rintro e w3 ⟨v3,rfl,xm,P⟩;replace y:=hid (Z0_ y.out (le_refl _) P);(try replace r:=hid (r.out.up P));(try replace h:=hid (h.out.up P));(try replace j:=hid (j.out.up P));(try replace q:=hid (q.out.up P));have R:=hid xm;clear xm P)
  | (go_at_call_of 132 (Value.slice Aa (allL m.n).length ca);refine (xw.out _ _ _ j.out q.out h.out).mono ?_;rintro e w5 ⟨rfl,I⟩;replace y:=hid (Z0_ y.out (le_refl _) I);(try replace r:=hid (r.out.up I));(try replace h:=hid (h.out.up I));(try replace j:=hid (j.out.up I));(try replace q:=hid (q.out.up I));(try replace R:=hid (R.out.up I));clear I)
  | (go_at_call_of 132 v3;refine (xv.out _ _ _ j.out R.out h.out).mono ?_;rintro e w4 ⟨rfl,H⟩;replace y:=hid (Z0_ y.out (le_refl _) H);(try replace r:=hid (r.out.up H));(try replace h:=hid (h.out.up H));(try replace j:=hid (j.out.up H));(try replace q:=hid (q.out.up H));(try replace R:=hid (R.out.up H));clear H))
 all_goals
  have xt:=hid (Z0_ xs.out.drew (le_refl _) y.out);clear y;go_simp;go_wp2;go_ret;exact ⟨by rw [← HM.out];rfl,xt.out⟩
theorem one_5 (E:Nat→Addr) (k:Nat) (m:Mat) (v g:Value) (s:List Int) (w:World) (I:MatV w w.heap.size v m) (hs:Sml m) (hc:chk m=0) (F:Row w w.heap.size g s) (o:InN (nN m) s) (Q:Env E w) (ih:Zb5 E k) (hd:dp 4 m≤k+1) (H:m.t=5):Calls Tryz.prog 161 #[v,g] w (Tells w (rkP (k+1) m (memP s):Nat)):=by
 rw [rkP_5 H];have Y:=chk_n hc;have xf:subB s (allL m.n)=true:=(S0_ Y.1 Y.2).2 o;have T:imgB m s=true:=by unfold imgB;rw [xf,decide_eq_true hc,decide_eq_true (show m.t=5∨m.t=6 by omega)];rfl
 have xa:imgL m s=imgM m s:=by unfold imgL;rw [T,if_pos rfl]
 have U:=Yt5 hc (.inl H) o;have xc:=Ya3 hc (.inl H) o;have xz:=Zf2 m s;have HS:=hid o;have y2:=X1_ o;have y0:=(Y7_ hc).2;have y1:(s.length:Int)≤64:=k30_;have xu:s.length≤1048576:=k30_;obtain ⟨lv,iv,rfl,xb,S⟩:=I.open;obtain ⟨Al,cl,rfl,_⟩:=id xb;obtain ⟨K,ci,rfl,_⟩:=id S;obtain ⟨As,cs,rfl,_⟩:=id F;have d:=hid (Z1_ w m (.slice Al m.l.length cl) (.slice K m.i.length ci));have L:=hid (Z3_ w m (.slice Al m.l.length cl) (.slice K m.i.length ci));have x7:=hid (F.up d.out);have HL:=hid (xb.up d.out);have HI:=hid (S.up d.out);have Hv:=hid (I.up d.out);have HE:=hid (Q.up d.out);unfold boxed at *
 have z:=L.out.cell;obtain ⟨P,hW0⟩:∃ P,P=w.alloc (.cells #[.int .i64 m.t,.int .i64 m.n,.int .i64 m.a,.int .i64 m.b,.slice Al m.l.length cl,.slice K m.i.length ci] 25):=⟨_,rfl⟩;have xg:=hid hW0;have xt:w.heap.size<P.heap.size:=q33_;rw [← hW0] at d x7 HL HI Hv HE z L;have xl:Hid (∀ (v g:Value) (W:World),MatV W W.heap.size v m→Row W W.heap.size g s→Env E W→Calls Tryz.prog 175 #[v,g] W (K9_ W true (imgM m s))):=hid fun v g W B C h3=>by rw [← xa,← T];exact Zo3 E m v g s W B hs h3 C xu
 obtain ⟨q1,q2,q3⟩:=C2_ hc k30_;have xs:m.i.length=1:=by rw [q1];rfl
 obtain ⟨xv,xw,he,_,x9⟩:=S;injection he with he1 he2 he3;subst he1 he3;obtain ⟨ai,ui,xq,h,xe,u⟩:=x9 0 k30_;subst xq;rw [show (0:Nat) * 6=0 from rfl,add_zero] at xe;rw [show m.i.getD 0 default=inn m from rfl] at u;obtain ⟨lx,ix,Z,X,V⟩:=u.open;obtain ⟨x0,x1,x2,x3,x4,x5,c,s0,s1,s2,s3,s4,s5⟩:=xe;rw [Z] at c;injection c with c;injection c with c;injection c with h0 c;injection c with B c;injection c with C c;injection c with h3 c;injection c with h4 c;injection c with h5 _;subst h0 B C h3 h4 h5;have G:=sml_i hs (X0_ m.i 0 default k30_);rw [show m.i.getD 0 default=inn m from rfl] at G;have xx:(0:Int)<(m.i.length:Int):=k30_;have xy:0<m.i.length:=k30_;obtain ⟨x,J⟩:∃ x,inn m=x:=⟨_,rfl⟩;simp only [J] at u X V s0 s1 s2 s3 s4 s5 G q2 q3 Z ⊢;have Hx:=hid J;obtain ⟨Alx,clx,rfl,_⟩:=id X;obtain ⟨Aix,cix,rfl,_⟩:=id V;subst Z;have t0:=(d.out.cell (p:=ai) h).trans s0;have t1:=(d.out.cell (p:=⟨ai.block,ai.off+1,none⟩) h).trans s1;have t2:=(d.out.cell (p:=⟨ai.block,ai.off+2,none⟩) h).trans s2;have t3:=(d.out.cell (p:=⟨ai.block,ai.off+3,none⟩) h).trans s3;have t4:=(d.out.cell (p:=⟨ai.block,ai.off+4,none⟩) h).trans s4;have t5:=(d.out.cell (p:=⟨ai.block,ai.off+5,none⟩) h).trans s5;have xm:=hid (u.up d.out);obtain ⟨y,hW1⟩:∃ y,y=(w.alloc (.cells #[.int .i64 m.t,.int .i64 m.n,.int .i64 m.a,.int .i64 m.b,.slice Al m.l.length cl,.slice (some ai) m.i.length ci] 25)).alloc (.cells #[.int .i64 x.t,.int .i64 x.n,.int .i64 x.a,.int .i64 x.b,.slice Alx x.l.length clx,.slice Aix x.i.length cix] 25):=⟨_,rfl⟩;have x6:=hid hW1;have q:Below w.heap.size w y:=by rw [hW1];exact ((Below.refl _ w).alloc (le_refl _) _).alloc y31_ _
 have xh:=hid q;have xo:=hid (F.up q);have D:=hid (Q.up q);have O:=hid (u.up q);have xp:=hid (I.up q);have M:Hid (Blk y w.heap.size 25 #[.int .i64 m.t,.int .i64 m.n,.int .i64 m.a,.int .i64 m.b,.slice Al m.l.length cl,.slice (some ai) m.i.length ci]):=hid j36_;have N:Hid (Blk y (w.heap.size+1) 25 #[.int .i64 x.t,.int .i64 x.n,.int .i64 x.a,.int .i64 x.b,.slice Alx x.l.length clx,.slice Aix x.i.length cix]):=hid q32_;have xr:dp 4 x≤k:=k30_;rw [J] at U;have d7:(m.t==7)=false:=j31_;have d8:(m.t==8)=false:=j31_;have d5:(m.t==5)=true:=j31_;rw [← xc];clear H;obtain ⟨R,hR⟩:∃ R:Nat,rkP k x (memP (imgM m s))=R:=⟨_,rfl⟩;have xk:Hid (∀ (v g:Value) (W:World),MatV W W.heap.size v x→Row W W.heap.size g (imgM m s)→Env E W→Calls Tryz.prog 132 #[v,g] W (Tells W (R:Int))):=hid fun v g W B C h3=>by rw [← hR];exact ih x v g _ W B G q2 xr C U h3
 rw [hR];clear Hv HL HE x7 L hs o xs x9 he2 X V s0 s1 s2 s3 s4 s5 h J u q1 I F Q G ih HI xm xf T xa U xc Y
 go_enter Tryz.func161,Tryz.ntmps161
 rw [hW0] at d t0 t1 t2 t3 t4 t5 z;have g0:=z 0;have g5:=z 5;clear hW0 xg xt z hW1 q
 go_wp2_with fail
 rw [← x6.out];refine (xl.out _ _ _ xp.out xo.out D.out).mono ?_;rintro e w2 ⟨v2,rfl,xd,r,_⟩;have xi:=hid (Z0_ xh.out (le_refl _) r);have xj:=hid (M.out.below r M.out.lt);have j:=hid (N.out.below r N.out.lt);replace D:=hid (D.out.up r);replace O:=hid (O.out.up r);have xn:=hid xd;have c0:=j.out.cell 0;have c1:=j.out.cell 1;have c2:=j.out.cell 2;have c3:=j.out.cell 3;have c4:=j.out.cell 4;have c5:=j.out.cell 5;have m0:=xj.out.cell 0;clear r xd g0 g5 t0 t1 t2 t3 t4 t5 M N x6 d
 go_wp2_with fail
 refine (xk.out _ _ _ O.out xn.out D.out).mono ?_;rintro e w3 ⟨rfl,x8⟩;have Hb3:=hid (Z0_ xi.out (le_refl _) x8);clear x8 c0 c1 c2 c3 c4 c5 m0;exact k9_
theorem one_6 (E:Nat→Addr) (k:Nat) (m:Mat) (v c:Value) (s:List Int) (w:World) (hv:MatV w w.heap.size v m) (hs:Sml m) (hc:chk m=0) (hr:Row w w.heap.size c s) (L:InN (nN m) s) (hE:Env E w) (ih:Zb5 E k) (hd:dp 4 m≤k+1) (S:m.t=6):Calls Tryz.prog 161 #[v,c] w (Tells w (rkP (k+1) m (memP s):Nat)):=by
 rw [rkP_6 S];have xm:=chk_n hc;have y0:subB s (allL m.n)=true:=(S0_ xm.1 xm.2).2 L;have xi:imgB m s=true:=by unfold imgB;rw [y0,decide_eq_true hc,decide_eq_true (show m.t=5∨m.t=6 by omega)];rfl
 have xt:imgL m s=imgM m s:=by unfold imgL;rw [xi,if_pos rfl]
 have x8:=Yt5 hc (.inr S) L;have xv:=Ya3 hc (.inr S) L;have yt:=Zf2 m s;have R:=Zw8 hc (.inr S);have HS:=hid L;have yy:=X1_ L;have yw:=(Y7_ hc).2;have yx:(s.length:Int)≤64:=k30_;have yl:s.length≤1048576:=k30_;obtain ⟨lv,iv,rfl,xk,xh⟩:=hv.open;obtain ⟨Al,cl,rfl,_⟩:=id xk;obtain ⟨Ai,ci,rfl,_⟩:=id xh;obtain ⟨As,cs,rfl,_⟩:=id hr;have g:=hid (Z1_ w m (.slice Al m.l.length cl) (.slice Ai m.i.length ci));have xa:=hid (Z3_ w m (.slice Al m.l.length cl) (.slice Ai m.i.length ci));have xq:=hid (hr.up g.out);have HL:=hid (xk.up g.out);have HI:=hid (xh.up g.out);have Hv:=hid (hv.up g.out);have HE:=hid (hE.up g.out);unfold boxed at *
 have U:=xa.out.cell;obtain ⟨W0,hW0⟩:∃ W0,W0=w.alloc (.cells #[.int .i64 m.t,.int .i64 m.n,.int .i64 m.a,.int .i64 m.b,.slice Al m.l.length cl,.slice Ai m.i.length ci] 25):=⟨_,rfl⟩;have y2:=hid hW0;have yi:w.heap.size<W0.heap.size:=q33_;rw [← hW0] at g xq HL HI Hv HE U xa;have y9:Hid (∀ (v c:Value) (W:World),MatV W W.heap.size v m→Row W W.heap.size c s→Env E W→Calls Tryz.prog 175 #[v,c] W (K9_ W true (imgM m s))):=hid fun v c W D F h3=>by rw [← xt,← xi];exact Zo3 E m v c s W D hs h3 F yl
 obtain ⟨q1,q2,q3⟩:=C2_ hc k30_;have yf:m.i.length=1:=by rw [q1];rfl
 obtain ⟨yn,yp,he,_,xs⟩:=xh;injection he with he1 he2 he3;subst he1 he3;obtain ⟨ai,ui,yc,G,xz,Q⟩:=xs 0 k30_;subst yc;rw [show (0:Nat) * 6=0 from rfl,add_zero] at xz;rw [show m.i.getD 0 default=inn m from rfl] at Q;obtain ⟨lx,ix,xo,xl,xj⟩:=Q.open;obtain ⟨x0,x1,x2,x3,x4,x5,d,s0,s1,s2,s3,s4,s5⟩:=xz;rw [xo] at d;injection d with d;injection d with d;injection d with h0 d;injection d with D d;injection d with F d;injection d with h3 d;injection d with h4 d;injection d with h5 _;subst h0 D F h3 h4 h5;have X:=sml_i hs (X0_ m.i 0 default k30_);rw [show m.i.getD 0 default=inn m from rfl] at X;have yr:(0:Int)<(m.i.length:Int):=k30_;have ys:0<m.i.length:=k30_;obtain ⟨x,Y⟩:∃ x,inn m=x:=⟨_,rfl⟩;simp only [Y] at Q xl xj s0 s1 s2 s3 s4 s5 X q2 q3 xo ⊢;have Hx:=hid Y;obtain ⟨Alx,clx,rfl,_⟩:=id xl;obtain ⟨Aix,cix,rfl,_⟩:=id xj;subst xo;have t0:=(g.out.cell (p:=ai) G).trans s0;have t1:=(g.out.cell (p:=⟨ai.block,ai.off+1,none⟩) G).trans s1;have t2:=(g.out.cell (p:=⟨ai.block,ai.off+2,none⟩) G).trans s2;have t3:=(g.out.cell (p:=⟨ai.block,ai.off+3,none⟩) G).trans s3;have t4:=(g.out.cell (p:=⟨ai.block,ai.off+4,none⟩) G).trans s4;have t5:=(g.out.cell (p:=⟨ai.block,ai.off+5,none⟩) G).trans s5;have ya:=hid (Q.up g.out);obtain ⟨K,hW1⟩:∃ K,K=(w.alloc (.cells #[.int .i64 m.t,.int .i64 m.n,.int .i64 m.a,.int .i64 m.b,.slice Al m.l.length cl,.slice (some ai) m.i.length ci] 25)).alloc (.cells #[.int .i64 x.t,.int .i64 x.n,.int .i64 x.a,.int .i64 x.b,.slice Alx x.l.length clx,.slice Aix x.i.length cix] 25):=⟨_,rfl⟩;have xp:=hid hW1;have O:Below w.heap.size w K:=by rw [hW1];exact ((Below.refl _ w).alloc (le_refl _) _).alloc y31_ _
 have Z:=hid O;have yb:=hid (hr.up O);have j:=hid (hE.up O);have r:=hid (Q.up O);have xr:=hid (hv.up O);have xb:Hid (Blk K w.heap.size 25 #[.int .i64 m.t,.int .i64 m.n,.int .i64 m.a,.int .i64 m.b,.slice Al m.l.length cl,.slice (some ai) m.i.length ci]):=hid j36_;have xd:Hid (Blk K (w.heap.size+1) 25 #[.int .i64 x.t,.int .i64 x.n,.int .i64 x.a,.int .i64 x.b,.slice Alx x.l.length clx,.slice Aix x.i.length cix]):=hid q32_;have xg:dp 4 x≤k:=k30_;rw [Y] at x8;rw [Y] at R;have d7:(m.t==7)=false:=j31_;have d8:(m.t==8)=false:=j31_;have d5:(m.t==5)=false:=j31_;rw [← xv];have y1:=A0_ x8 R;have x9:=rk_ok k x q2 xg;have e1:rkP k x (memP (X2_ (imgM m s) (row m 0)))=rkP k x (orP (memP (row m 0)) (memP (imgM m s))):=x9.ext fun i _=>by rw [S1_ x8.1 R.1];unfold orP;rw [Bool.or_comm]
 have xw:rkP k x (memP (row m 0))≤rkP k x (orP (memP (row m 0)) (memP (imgM m s))):=x9.mono fun i _ h=>by unfold orP;rw [h];rfl
 have b1:=x9.le_cnt (orP (memP (row m 0)) (memP (imgM m s)));have b2:=F0_ (orP (memP (row m 0)) (memP (imgM m s))) (nN x);have b3:=(Y7_ q2).2;have yj:=X1_ R;obtain ⟨B,x6⟩:∃ B:Nat,rkP k x (orP (memP (row m 0)) (memP (imgM m s)))=B:=⟨_,rfl⟩;obtain ⟨C,x7⟩:∃ C:Nat,rkP k x (memP (row m 0))=C:=⟨_,rfl⟩;rw [x6,x7] at xw;rw [x6] at e1 b1;rw [x6,x7];have y7:Hid (∀ (v c:Value) (W:World),MatV W W.heap.size v x→Row W W.heap.size c (X2_ (imgM m s) (row m 0))→Env E W→Calls Tryz.prog 132 #[v,c] W (Tells W (B:Int))):=hid fun v c W D F h3=>by rw [← e1];exact ih x v c _ W D X q2 xg F y1 h3
 have y8:Hid (∀ (v c:Value) (W:World),MatV W W.heap.size v x→Row W W.heap.size c (row m 0)→Env E W→Calls Tryz.prog 132 #[v,c] W (Tells W (C:Int))):=hid fun v c W D F h3=>by rw [← x7];exact ih x v c _ W D X q2 xg F R h3
 have yz:IntKind.i64.wrap ((B:Int) - (C:Int))=(B:Int) - (C:Int):=k31_;obtain ⟨M,hM⟩:∃ M:Int,M=((B - C:Nat):Int):=⟨_,rfl⟩;have HM:Hid ((B:Int) - (C:Int)=M):=hid k30_;rw [← hM];have yh:m.l.length=1:=(M2_ hc (.inr S)).1;obtain ⟨yo,yq,ye,_,xu⟩:=xk;injection ye with hel1 hel2 hel3;subst hel1 hel3;obtain ⟨ad,u0,yd,xe,xf,xn⟩:=xu 0 k30_;subst yd;rw [add_zero] at xf;rw [show m.l.getD 0 []=row m 0 from rfl] at xn;have yu:(0:Int)<(m.l.length:Int):=k30_;have yv:0<m.l.length:=k30_;have yg:(imgM m s).length≤1048576:=k30_;have yk:(row m 0).length≤1048576:=k30_;have q:=hid (xn.up Z.out);have y6:=hid ((Z.out.cell (p:=ad) xe).trans xf);have y3:=hid (show ad.block<K.heap.size from Nat.lt_of_lt_of_le xe Z.out.size);clear S y1 x9 e1 xw b1 b2 b3 yj x6 x7 hM yh hel2 xu xe xf xn R;clear Hv HL HE xq xa hs L yf xs he2 xl xj s0 s1 s2 s3 s4 s5 G Y Q q1 hv hr hE X ih HI ya y0 xi xt x8 xv xm
 go_enter Tryz.func161,Tryz.ntmps161
 rw [hW0] at g t0 t1 t2 t3 t4 t5 U;have g0:=U 0;have g5:=U 5;clear hW0 y2 yi U hW1 O
 go_wp2_with fail
 rw [← xp.out];refine (y9.out _ _ _ xr.out yb.out j.out).mono ?_;rintro e J ⟨v2,rfl,xx,z,_⟩;have y4:=hid (Z0_ Z.out (le_refl _) z);have xc:=hid (xb.out.below z xb.out.lt);have o:=hid (xd.out.below z xd.out.lt);replace j:=hid (j.out.up z);replace r:=hid (r.out.up z);have y:=hid xx;have m0:=xc.out.cell 0;have m4:=xc.out.cell 4;have cu:=(z.cell (p:=ad) y3.out).trans y6.out;replace q:=hid (q.out.up z);clear z xx g0 g5 t0 t1 t2 t3 t4 t5 xb xd xp g;obtain ⟨Ag,cg,ym,_⟩:=id q.out;subst ym;go_wp2;clear m0 m4 cu;have V:=(Below.refl J.heap.size J).drew;replace j:=hid (j.out.up V);replace r:=hid (r.out.up V);replace y:=hid (y.out.up V);replace q:=hid (q.out.up V);clear V;have K1:Hid (∀ W,Below J.drew.heap.size J.drew W→W.cell? ⟨w.heap.size+1,0,none⟩=some (.int .i64 x.t)∧W.cell? ⟨w.heap.size+1,1,none⟩=some (.int .i64 x.n)∧W.cell? ⟨w.heap.size+1,2,none⟩=some (.int .i64 x.a)∧W.cell? ⟨w.heap.size+1,3,none⟩=some (.int .i64 x.b)∧W.cell? ⟨w.heap.size+1,4,none⟩=some (.slice Alx x.l.length clx)∧W.cell? ⟨w.heap.size+1,5,none⟩=some (.slice Aix x.i.length cix)):=hid fun W N=>⟨(o.out.drew.below N o.out.lt).cell 0,(o.out.drew.below N o.out.lt).cell 1,(o.out.drew.below N o.out.lt).cell 2,(o.out.drew.below N o.out.lt).cell 3,(o.out.drew.below N o.out.lt).cell 4,(o.out.drew.below N o.out.lt).cell 5⟩;have u:Hid (Below J.drew.heap.size J.drew J.drew):=hid (Below.refl _ _);clear xc o xr;generalize w.heap.size+1=B1 at *
 go_region_held3 (fun W=>W.cell? ⟨B1,0,none⟩=some (.int .i64 x.t)∧W.cell? ⟨B1,1,none⟩=some (.int .i64 x.n)∧W.cell? ⟨B1,2,none⟩=some (.int .i64 x.a)∧W.cell? ⟨B1,3,none⟩=some (.int .i64 x.b)∧W.cell? ⟨B1,4,none⟩=some (.slice Alx x.l.length clx)∧W.cell? ⟨B1,5,none⟩=some (.slice Aix x.i.length cix))
  (exact K1.out _ u.out)
  (first
  | (go_at_call 66;refine (Zn4 _ _ (imgM m s) (row m 0) _ y.out q.out yg yk).mono ?_;rintro e w3 ⟨v3,rfl,xy,P⟩;replace u:=hid (Z0_ u.out (le_refl _) P);(try replace j:=hid (j.out.up P));(try replace r:=hid (r.out.up P));(try replace y:=hid (y.out.up P));(try replace q:=hid (q.out.up P));have T:=hid xy;clear xy P)
  | (go_at_call_of 132 (Value.slice Ag (row m 0).length cg);refine (y8.out _ _ _ r.out q.out j.out).mono ?_;rintro e w5 ⟨rfl,I⟩;replace u:=hid (Z0_ u.out (le_refl _) I);(try replace j:=hid (j.out.up I));(try replace r:=hid (r.out.up I));(try replace y:=hid (y.out.up I));(try replace q:=hid (q.out.up I));(try replace T:=hid (T.out.up I));clear I)
  | (go_at_call_of 132 v3;refine (y7.out _ _ _ r.out T.out j.out).mono ?_;rintro e w4 ⟨rfl,H⟩;replace u:=hid (Z0_ u.out (le_refl _) H);(try replace j:=hid (j.out.up H));(try replace r:=hid (r.out.up H));(try replace y:=hid (y.out.up H));(try replace q:=hid (q.out.up H));(try replace T:=hid (T.out.up H));clear H))
 all_goals
  have y5:=hid (Z0_ y4.out.drew (le_refl _) u.out);clear u;go_simp;go_wp2;go_ret;exact ⟨by rw [← HM.out];rfl,y5.out⟩
open Go.RowKit
def offN (l:List Mat) (j:Nat):Nat:=((l.take j).map nN).sum
theorem Zn8 {l:List Mat} {j:Nat} (c:j<l.length):offN l (j+1)=offN l j+nN (l.getD j default):=by
 unfold offN;rw [List.take_succ_eq_append_getElem c,List.map_append,List.sum_append,show l.getD j default=l[j] by simp [List.getD,c]];simp
theorem Vy9 (l:List Mat):∀ j,offN l j≤(l.map nN).sum:=by
 intro j;unfold offN
 conv=>rhs;rw [← List.take_append_drop j l,List.map_append,List.sum_append]
 exact Nat.le_add_right _ _
theorem Zv6 (f:Mat→(Nat→Bool)→Nat):∀ (a b:List Mat) (P:Nat→Bool),sumR f (a ++ b) P=sumR f a P+sumR f b (fun i=>P ((a.map nN).sum+i))
 | [],b,P=>by simp [sumR]
 | x :: a,b,P=>by
  rw [List.cons_append,sumR,sumR,Zv6 f a b,List.map_cons,List.sum_cons];have:(fun i=>(fun i=>P (nN x+i)) ((a.map nN).sum+i))=fun i=>P (nN x+(a.map nN).sum+i):=by funext i;show P _=P _;rw [Nat.add_assoc]
  rw [this];omega
theorem Zn9 (f:Mat→(Nat→Bool)→Nat) {l:List Mat} {j:Nat} (c:j<l.length) (P:Nat→Bool):sumR f (l.take (j+1)) P=sumR f (l.take j) P+f (l.getD j default) (fun i=>P (offN l j+i)):=by
 rw [List.take_succ_eq_append_getElem c,Zv6,show l.getD j default=l[j] by simp [List.getD,c]];simp [sumR,offN]
theorem Vx0 {s:List Int} {N f n:Nat} (hs:InN N s) (e:n≤64):InN n (betL s f n):=by
 have hb:∀ x∈betL s (f:Int) (n:Int),0≤x∧x<(n:Int):=fun x c=>by
  obtain ⟨z,d,rfl⟩:=List.mem_map.1 c;have:=(List.mem_filter.1 d).2;unfold betB at this;rw [Bool.and_eq_true,decide_eq_true_iff,decide_eq_true_iff] at this;omega
 refine ⟨⟨?_,fun x c=>⟨(hb x c).1,by have:=(hb x c).2;omega⟩⟩,hb⟩;unfold betL;rw [List.pairwise_map];exact (hs.1.1.sublist List.filter_sublist).imp fun h=>by omega
theorem Xh9 {s:List Int} {f n i:Nat} (hi:i<n):memP (betL s f n) i=memP s (f+i):=by
 rw [Bool.eq_iff_iff,memP_iff,memP_iff];unfold betL;rw [List.mem_map];constructor
 ·rintro ⟨z,c,e⟩
  have:=(List.mem_filter.1 c).1
  rwa [show (((f+i:Nat)):Int)=z by omega]
 ·intro h
  refine ⟨((f+i:Nat):Int),List.mem_filter.2 ⟨h,?_⟩,k30_⟩;unfold betB;rw [decide_eq_true k30_,decide_eq_true k30_];rfl
theorem Vx1 (E:Nat→Addr) (k:Nat) (m:Mat) (iv p:Value) (s:List Int) (w:World) (hi:MatL w w.heap.size iv m.i) (hs:Sml m) (hc:chk m=0) (Y:Row w w.heap.size p s) (J:InN (nN m) s) (hE:Env E w) (ih:Zb5 E k) (hd:dp 4 m≤k+1) (ht:m.t=9) :
  Calls Tryz.prog 160 #[iv,p] w (Tells w (sumR (rkP k) m.i (memP s):Nat)):=by
 obtain ⟨y9,h8⟩:=Yt7 hc ht;have yd:=(Y7_ hc).2;have xh:∀ j,offN m.i j≤64:=fun j=>by have:=Vy9 m.i j;omega
 have V:∀ j,j<m.i.length→chk (m.i.getD j default)=0∧dp 4 (m.i.getD j default)≤k∧Sml (m.i.getD j default):=fun j z=>by
  have hm:=X0_ m.i j default z;have:=within hc hm;exact ⟨this.1,k30_,sml_i hs hm⟩
 have xi:∀ j,j≤m.i.length→sumR (rkP k) (m.i.take j) (memP s)≤offN m.i j:=by
  intro j
  induction j with
  | zero=>intro _;simp [sumR]
  | succ j ihj =>
   intro z;have I:=ihj k30_;obtain ⟨c1,c2,_⟩:=V j k30_;have u:=(rk_ok k _ c1 c2).le_cnt (fun i=>memP s (offN m.i j+i));have h3:=F0_ (fun i=>memP s (offN m.i j+i)) (nN (m.i.getD j default));rw [Zn9 _ k30_,Zn8 k30_];omega
 have ye:=X1_ J;have xl:∀ j,j<s.length→0≤s.getD j 0∧s.getD j 0≤64:=fun j z=>by have:=S3_ J z;omega
 obtain ⟨Ai,ci,rfl,_,xb⟩:=hi;obtain ⟨As,cs,rfl,_⟩:=id Y;have xs:=hid xb;have Hr:=hid Y;have HE:=hid hE;have HS:=hid J;have x8:=hid xh;have xu:=hid V;have xw:=hid xi;have xy:=hid xl;have ya:(m.i.length:Int)≤8:=k30_;have y8:s.length≤64:=k30_;clear xb Y hE J xh V xi xl hs y9 hd
 go_enter Tryz.func160,Tryz.ntmps160
 go_wp2
 go_loopw [5,6,11] (fun vm vf vj wr=>∃ j:Nat,vj=.int .i64 j∧j≤m.i.length∧vm=.int .i64 (sumR (rkP k) (m.i.take j) (memP s):Nat)∧vf=.int .i64 (offN m.i j:Nat)∧Below w.heap.size w wr) (fun _ _ vj _=>m.i.length - (intOf vj).toNat)
 case atStart=>exact ⟨0,rfl,Nat.zero_le _,by simp [sumR],by simp [offN],Below.refl _ _⟩
 case round =>
  obtain ⟨j,rfl,z,rfl,rfl,h⟩:=hrel;by_cases N:j<m.i.length
  ·have yc:(j:Int)<(m.i.length:Int):=by omega
   obtain ⟨ai,ui,y1,hab,xk,xf⟩:=xs.out j N;subst y1;obtain ⟨c1,c2,c3⟩:=xu.out j N;have r:=Zn9 (rkP k) N (memP s);have X:=Zn8 N;have xg:=x8.out j;have y5:=x8.out (j+1);have y6:=xw.out (j+1) k30_;have y7:=xk.below h y32_;have U:=(xf.bel h).mono h.size;obtain ⟨lx,ix,xm,xe,xc⟩:=U.open;obtain ⟨x0,x1,x2,x3,x4,x5,c,s0,s1,s2,s3,s4,s5⟩:=y7;rw [xm] at c;injection c with c;injection c with c;injection c with h0 c;injection c with I c;injection c with u c;injection c with h3 c;injection c with h4 c;injection c with h5 _;subst h0 I u h3 h4 h5;generalize m.i.getD j default=x at *
   obtain ⟨C,H,rfl,_⟩:=id xe;obtain ⟨B,D,rfl,_⟩:=id xc;subst xm;have x6:=Y7_ c1;have T:=Vx0 (f:=offN m.i j) (n:=nN x) HS.out x6.2;have Z:=rk_ok k x c1 c2;have e1:rkP k x (memP (betL s (offN m.i j:Nat) (nN x:Nat)))=rkP k x (fun i=>memP s (offN m.i j+i)):=Z.ext fun i y4=>Xh9 y4;rw [← e1] at r;have Q:=Z.le_cnt (memP (betL s (offN m.i j:Nat) (nN x:Nat)));have b2:=F0_ (memP (betL s (offN m.i j:Nat) (nN x:Nat))) (nN x);obtain ⟨g,K⟩:∃ g,g=wr.alloc (.cells #[.int .i64 x.t,.int .i64 x.n,.int .i64 x.a,.int .i64 x.b,.slice C x.l.length H,.slice B x.i.length D] 25):=⟨_,rfl⟩;have x7:=hid K;have y:Below wr.heap.size wr g:=by rw [K];exact (Below.refl _ wr).alloc (le_refl _) _
   have xa:Blk g wr.heap.size 25 #[.int .i64 x.t,.int .i64 x.n,.int .i64 x.a,.int .i64 x.b,.slice C x.l.length H,.slice B x.i.length D]:=by rw [K];exact Blk.new wr _ _
   have d:=hid xa;have M:=(Below.refl g.heap.size g).drew;have xn:=hid (h.trans (y.mono h.size));have y0:=hid (((Hr.out.up h).up y).up M);have O:=hid (((HE.out.up h).up y).up M);have P:=hid ((U.up y).up M);obtain ⟨F,hF⟩:∃ F,offN m.i j=F:=⟨_,rfl⟩;obtain ⟨G,hG⟩:∃ G,sumR (rkP k) (m.i.take j) (memP s)=G:=⟨_,rfl⟩;rw [hF] at T Q b2 r X xg ⊢;rw [hG] at r ⊢;obtain ⟨R,S⟩:∃ R:Nat,rkP k x (memP (betL s (F:Nat) (nN x:Nat)))=R:=⟨_,rfl⟩;rw [S] at r Q;have xr:Hid (∀ (v p:Value) (W:World),MatV W W.heap.size v x→Row W W.heap.size p (betL s (F:Nat) x.n)→Env E W→Calls Tryz.prog 132 #[v,p] W (Tells W (R:Int))):=hid fun v p W I u h3=>by rw [← S];rw [← x6.1] at u;exact ih x v p _ W I c3 c1 c2 u T h3
   have y2:0≤(F:Int)∧(F:Int)≤1000:=k30_;have y3:0≤x.n∧x.n≤1000:=k30_;have yf:IntKind.i64.wrap ((G:Int)+(R:Int))=(G:Int)+(R:Int):=k31_;have yg:IntKind.i64.wrap ((F:Int)+x.n)=(F:Int)+x.n:=k31_;have xz:Hid ((G:Int)+(R:Int)=(sumR (rkP k) (m.i.take (j+1)) (memP s):Nat)):=hid (by rw [r];omega);have xv:Hid ((F:Int)+x.n=(offN m.i (j+1):Nat)):=hid (by rw [X];omega);have K1:Hid (∀ W,Below g.drew.heap.size g.drew W→W.cell? ⟨wr.heap.size,0,none⟩=some (.int .i64 x.t)∧W.cell? ⟨wr.heap.size,1,none⟩=some (.int .i64 x.n)∧W.cell? ⟨wr.heap.size,2,none⟩=some (.int .i64 x.a)∧W.cell? ⟨wr.heap.size,3,none⟩=some (.int .i64 x.b)∧W.cell? ⟨wr.heap.size,4,none⟩=some (.slice C x.l.length H)∧W.cell? ⟨wr.heap.size,5,none⟩=some (.slice B x.i.length D)):=hid fun W q=>⟨(d.out.drew.below q d.out.lt).cell 0,(d.out.drew.below q d.out.lt).cell 1,(d.out.drew.below q d.out.lt).cell 2,(d.out.drew.below q d.out.lt).cell 3,(d.out.drew.below q d.out.lt).cell 4,(d.out.drew.below q d.out.lt).cell 5⟩;have o:Hid (Below g.drew.heap.size g.drew g.drew):=hid (Below.refl _ _);clear K y xa M T Z e1 Q b2 r X xg y5 y6 hF hG S x6 xf U xe xc xk hab c1 c2 c3 h ih hc;go_wp2;rw [← x7.out];clear s0 s1 s2 s3 s4 s5 x7 d;generalize wr.heap.size=B1 at *
   go_region_held3 (fun W=>W.cell? ⟨B1,0,none⟩=some (.int .i64 x.t)∧W.cell? ⟨B1,1,none⟩=some (.int .i64 x.n)∧W.cell? ⟨B1,2,none⟩=some (.int .i64 x.a)∧W.cell? ⟨B1,3,none⟩=some (.int .i64 x.b)∧W.cell? ⟨B1,4,none⟩=some (.slice C x.l.length H)∧W.cell? ⟨B1,5,none⟩=some (.slice B x.i.length D))
    (exact K1.out _ o.out)
    (first
    | (go_at_call 174;refine (Yz7 _ s (F:Int) x.n _ y0.out xy.out y2 y3 y8).mono ?_;rintro e w3 ⟨v3,rfl,xj,L⟩;replace o:=hid (Z0_ o.out (le_refl _) L);replace O:=hid (O.out.up L);replace P:=hid (P.out.up L);have xx:=hid xj;clear xj L)
    | (go_at_call 132;refine (xr.out _ _ _ P.out xx.out O.out).mono ?_;rintro e w4 ⟨rfl,x9⟩;replace o:=hid (Z0_ o.out (le_refl _) x9);clear x9))
   all_goals
    obtain ⟨_,q1,_⟩:=K1.out _ o.out;have xo:=hid (Z0_ xn.out.drew (le_refl _) o.out);clear o;go_simp;go_wp2
    go_roundw
    case rel=>exact ⟨j+1,z32_,k30_,by rw [← xz.out],by rw [← xv.out],xo.out⟩
    case measure=>simp [intOf];omega
  ·have xd:j=m.i.length:=by omega
   have xt:=hid xd;have xq:Hid (m.i.take j=m.i):=hid (by rw [xt.out,List.take_length]);have xp:=hid h;have yb:¬ (j:Int)<(m.i.length:Int):=k30_;clear h xd;go_wp2;go_ret;exact ⟨by rw [xq.out];rfl,xp.out⟩
theorem Ya7 (E:Nat→Addr):∀ k,Zb5 E k
 | 0=>fun m _ _ _ _ _ _ _ hd _ _ _=>absurd hd (by have:=Za6 4 m;omega)
 | k+1=>fun m v d s w h hs hc hd g e f=>by
  have p:=Ya7 E k;have r:=Yt1 hc;rcases (by omega:m.t=0∨m.t=1∨m.t=2∨m.t=3∨m.t=4∨m.t=5∨m.t=6∨m.t=7∨m.t=8∨m.t=9) with c | c | c | c | c | c | c | c | c | c
  ·exact Ve5 E k m v d s w h hs hc g e f c
  ·exact Ve6 E k m v d s w h hs hc g e f c
  ·exact Ve7 E k m v d s w h hs hc g e f c
  ·exact Ve8 E k m v d s w h hs hc g e f c
  ·exact Ve9 E k m v d s w h hs hc g e f c
  ·exact W5_ E k m v d s w h hs hc g e f k30_ _ fun v d W j o h3=>one_5 E k m v d s W j hs hc o e h3 p hd c
  ·exact W5_ E k m v d s w h hs hc g e f k30_ _ fun v d W j o h3=>one_6 E k m v d s W j hs hc o e h3 p hd c
  ·exact W5_ E k m v d s w h hs hc g e f k30_ _ fun v d W j o h3=>one_7 E k m v d s W j hs hc o e h3 p hd c
  ·exact W5_ E k m v d s w h hs hc g e f k30_ _ fun v d W j o h3=>one_8 E k m v d s W j hs hc o e h3 p hd c
  ·rw [rkP_9 k30_]
   exact Vf0 E k m v d s w h hs hc g e f c _ fun q d W j o h3=>Vx1 E k m q d s W j hs hc o e h3 p hd c
end Wp
end Go.Proofs.YtgpljiijjnaofaaGreatDoor
