/- Graphs in memory, and the program's components, walked. The program's parts and rank of a graph, walked. -/
import Derived.Test.YtheeajnkiniopaaGreatDoorZP
import Derived.Test.YtheeajnkiniopaaGreatDoorZA
import Derived.Deep.Slices
import Derived.Deep.OwnRows
import Derived.LoopN
import Derived.StillTailTactics
import Derived.Maps.OwnOps
import Derived.Maps.Views
import Derived.Test.YtheeajnkiniopaaGreatDoorX0A
import Derived.Test.YtheeajnkiniopaaGreatDoorX0B
set_option maxHeartbeats 8000000
set_option maxRecDepth 100000
open Go.Lib (hid)
namespace Go.Proofs.YtheeajnkiniopaaGreatDoor.Wp
open Go.RowKit
def Edges (w:World) (B:Nat) (v:Value) (es:List (Int × Int)):Prop :=
 ∃ A c,v=.slice A es.length c∧(es.length≤c∧c≤maxLen∧(A=none→c=0)) ∧
  ∀ k,k<es.length→∃ ad:Addr,A=some ad∧ad.block<B∧w.cell? (ad.add (k * 2))=some (.int .i64 (es.getD k (0,0)).1)∧w.cell? ⟨(ad.add (k * 2)).block,(ad.add (k * 2)).off+1,none⟩=some (.int .i64 (es.getD k (0,0)).2)
open Go.RowKit
def okE (n:Int) (e:Int × Int):Bool:=decide (0≤e.1∧e.1<n∧0≤e.2∧e.2<n)
def sizeB (n:Int) (es:List (Int × Int)):Bool:=decide (1≤n∧n≤64∧es.length≤4096)
def isG (n:Int) (es:List (Int × Int)):Bool:=sizeB n es && es.all (okE n)
theorem Ve2 {n:Int} {es:List (Int × Int)} (h:¬ (1≤n∧n≤64∧es.length≤4096)):isG n es=false:=by
 unfold isG sizeB;rw [decide_eq_false h];rfl
theorem Zm1 {es:List (Int × Int)} {k:Nat} (c:k<es.length):es.getD k (0,0)=es[k]:=by simp [List.getD,c]
theorem isG_bad {n:Int} {es:List (Int × Int)} {k:Nat} (c:k<es.length) (h:okE n (es.getD k (0,0))=false):isG n es=false:=by
 unfold isG;rw [Bool.and_eq_false_iff];right;rw [← Bool.not_eq_true,List.all_eq_true];intro h2;have:=h2 _ (List.getElem_mem c);rw [Zm1 c,this] at h;cases h
def Ya1 (n:Int) (es:List (Int × Int)) (k:Nat):Prop:=∀ j,j<k→okE n (es.getD j (0,0))=true
theorem Zu6 {n:Int} {es:List (Int × Int)} {k:Nat} (h:Ya1 n es k) (d:okE n (es.getD k (0,0))=true):Ya1 n es (k+1):=by
 intro j e;by_cases c:j=k
 ·rw [c];exact d
 ·exact h j k29_
theorem isG_end {n:Int} {es:List (Int × Int)} (c:1≤n∧n≤64∧es.length≤4096) {k:Nat} (g:k=es.length) (h:Ya1 n es k):isG n es=true:=by
 unfold isG sizeB;rw [decide_eq_true c,Bool.true_and,List.all_eq_true];intro e d;obtain ⟨j,f,rfl⟩:=List.mem_iff_getElem.1 d;have:=h j k29_
 rwa [Zm1 f] at this
theorem idx0 (x y:Int) (w:World):(Instr.index 116 (.agg #[.int .i64 x,.int .i64 y]) (.int .i64 0)).run Tryz.prog w=.ok (.int .i64 x) w:=q30_
theorem idx1 (x y:Int) (w:World):(Instr.index 116 (.agg #[.int .i64 x,.int .i64 y]) (.int .i64 1)).run Tryz.prog w=.ok (.int .i64 y) w:=q30_
theorem Yg9 (n:Int) (v:Value) (es:List (Int × Int)) (w:World) (Q:Edges w w.heap.size v es) (O:1≤n) (P:n≤64) (N:es.length≤4096) :
  Calls Tryz.prog 186 #[.int .i64 n,v] w (Says w (isG n es)):=by
 obtain ⟨A,c,rfl,_,B⟩:=Q;have s:=hid B;clear B;have r:=hid (fun k=>@isG_bad n es k);have I:=hid (fun k=>@isG_end n es ⟨O,P,N⟩ k);have X:=idx0;have Y:=idx1;have W:(es.length:Int)≤4096:=k29_
 go_enter Tryz.func186,Tryz.ntmps186
 go_wp2
 go_loopw [22] (fun q wr=>∃ k:Nat,q=.int .i64 k∧k≤es.length∧Below w.heap.size w wr∧Ya1 n es k) (fun q _=>es.length - (intOf q).toNat)
 case atStart=>exact ⟨0,rfl,Nat.zero_le _,Below.refl _ _,fun j M=>absurd M k29_⟩
 case round =>
  obtain ⟨k,rfl,V,F,E⟩:=hrel;have Hwr:=hid F;clear F;have u:=hid E;clear E;by_cases D:k<es.length
  ·obtain ⟨d,L,hab,z,h2⟩:=s.out k D
   subst L;have T:wr.cell? (d.add (k * 2))=some (.int .i64 (es.getD k (0,0)).1):=((Hwr.out).cell x31_).trans z;have U:wr.cell? ⟨(d.add (k * 2)).block,(d.add (k * 2)).off+1,none⟩=some (.int .i64 (es.getD k (0,0)).2):=((Hwr.out).cell (by show (d.add (k * 2)).block<_;rw [Z4_];exact hab)).trans h2;have Hno:=hid (r.out k D);have K:=hid (Zu6 (n:=n) (es:=es) (k:=k) u.out);clear z h2 r s;have e:Hid (okE n (es.getD k (0,0))=decide (0≤(es.getD k (0,0)).1∧(es.getD k (0,0)).1<n∧0≤(es.getD k (0,0)).2∧(es.getD k (0,0)).2<n)):=rfl;generalize (es.getD k (0,0)).1=x at *
   generalize (es.getD k (0,0)).2=y at *
   by_cases h:0≤x∧x<n
   ·obtain ⟨R,G⟩:=h
    by_cases o:0≤y∧y<n
    ·obtain ⟨S,H⟩:=o
     have Hx:Hid (okE n (es.getD k (0,0))=true):=by
      show okE n (es.getD k (0,0))=true;rw [e.out];simp [R,G,S,H]
     go_wp2;refine wp_loop_rounds 3 ?_;rw [rounds_succ];go_wp2;rw [rounds_succ];go_wp2;rw [rounds_succ];go_wp2
     go_roundw
     case rel=>exact ⟨k+1,y31_,k29_,(Hwr.out).alloc (Hwr.out).size _,K.out Hx.out⟩
     exact mz_
    ·have Hx:Hid (okE n (es.getD k (0,0))=false):=by
      show okE n (es.getD k (0,0))=false;rw [e.out,decide_eq_false_iff_not];rintro ⟨_,_,h3,g⟩;exact o ⟨h3,g⟩
     have p:y<0∨n≤y:=k29_;clear o;rcases p with p | p
     ·exact x27_
     ·have H:0≤y:=by omega
      exact x27_
   ·have Hx:Hid (okE n (es.getD k (0,0))=false):=by
     show okE n (es.getD k (0,0))=false;rw [e.out,decide_eq_false_iff_not];rintro ⟨h3,g,_⟩;exact h ⟨h3,g⟩
    have m:x<0∨n≤x:=k29_;clear h;rcases m with m | m
    ·go_wp2
     refine wp_loop_rounds 3 ?_;exact q6_
    ·have G:0≤x:=by omega
     go_wp2;refine wp_loop_rounds 3 ?_;exact q6_
  ·have C:k=es.length:=by omega
   have J:=hid (I.out k C u.out);subst C;go_wp2;go_ret;exact V1_ J.out rfl Hwr.out
theorem Zu7 (n:Int) (v:Value) (es:List (Int × Int)) (w:World) (d:Edges w w.heap.size v es) (hl:es.length≤1048576) :
  Calls Tryz.prog 186 #[.int .i64 n,v] w (Says w (isG n es)):=by
 by_cases h:1≤n∧n≤64∧es.length≤4096
 ·exact Yg9 n v es w d h.1 h.2.1 h.2.2
 ·have Hno:=hid (Ve2 h)
  have g:=hid d;obtain ⟨A,c,rfl,_⟩:=d;have k:(es.length:Int)≤1048576:=k29_;have h3:n<1∨(1≤n∧64<n)∨(1≤n∧n≤64∧4096<(es.length:Int)):=k29_;clear h;rcases h3 with h3 | ⟨h3,e⟩ | ⟨h3,e,j⟩
  ·exact q7_
  ·exact q7_
  ·exact q7_
theorem Yh0 (n:Int) (v:Value) (es:List (Int × Int)) (w:World) (c:Edges w w.heap.size v es) (hl:es.length≤1048576) {b:Bool} (hb:isG n es=b) :
  Calls Tryz.prog 186 #[.int .i64 n,v] w (Says w b):=by
 subst hb;exact Zu7 n v es w c hl
open Go.RowKit
def Labels (w:World) (g n:Nat) (f:Nat→Nat):Prop:=w.rowIs g 3 n fun i=>.int .i64 (f i:Int)
theorem Labels.congr {w:World} {g n:Nat} {f f':Nat→Nat} (h:Labels w g n f) (e:∀ i,i<n→f i=f' i):Labels w g n f':=World.rowIs.congr h fun i c=>by rw [e i c]
theorem Labels.set {w:World} {g n:Nat} {f:Nat→Nat} (h:Labels w g n f) (i:Nat) (v:Nat):Labels (w.setCell ⟨g,i,none⟩ (.int .i64 (v:Int))) g n (fun j=>if j=i then v else f j) :=
 World.rowIs.congr (World.rowIs.set h i _) fun j _=>z15_
def Xr5 (w:World) (g n:Nat) (f:Nat→Nat) (e:Ending) (w':World):Prop:=e=.returned (.tuple #[])∧Labels w' g n f∧w.grownBy w' (some g)
theorem Yh1 {f f':Nat→Nat} {lo e k:Nat} (h:f'=fun v=>if f v=e then lo else f v) :
  (f k=e→(fun j=>if j=k then lo else if j<k then f' j else f j)=fun j=>if j<k+1 then f' j else f j)∧(f k≠e→(fun j=>if j<k then f' j else f j)=fun j=>if j<k+1 then f' j else f j):=by
 subst h;constructor
 ·intro g
  funext j
  by_cases c:j=k
  ·subst c;simp [g]
  ·by_cases d:j<k
   ·simp [c,d,show j<k+1 by omega]
   ·simp [c,d,show ¬ j<k+1 by omega]
 ·intro g
  funext j
  by_cases c:j=k
  ·subst c;simp [g]
  ·by_cases d:j<k
   ·simp [d,show j<k+1 by omega]
   ·simp [d,show ¬ j<k+1 by omega]
theorem Ya2 (g n:Nat) (f f':Nat→Nat) (a b lo c:Nat) (s:f'=fun v=>if f v=c then lo else f v) (I:lo<c) (D:(lo=a∧c=b)∨(c=a∧lo=b)) (w:World) (r:Labels w g n f) (J:n≤64) :
  Calls Tryz.prog 187 #[.slice (some ⟨g,0,none⟩) n n,.int .i64 a,.int .i64 b] w (Xr5 w g n f'):=by
 have B:=hid r;clear r;have m:=hid (fun k=>Yh1 (k:=k) s);clear s;have K:(n:Int)≤64:=k29_;have L:((lo:Int)==(c:Int))=false:=by rw [beq_eq_false_iff_ne];omega
 have M:((c:Int)==(lo:Int))=false:=by rw [beq_eq_false_iff_ne];omega
 have N:¬ c<lo:=k29_;rcases D with ⟨q,h2⟩ | ⟨q,h2⟩
 all_goals
  subst q;subst h2
  go_enter Tryz.func187,Tryz.ntmps187
  go_wp2
  go_loopw [21] (fun h wr=>∃ k:Nat,h=.int .i64 k∧k≤n∧Labels wr g n (fun j=>if j<k then f' j else f j)∧w.grownBy wr (some g)) (fun h _=>n - (intOf h).toNat)
  case atStart=>exact ⟨0,rfl,Nat.zero_le _,B.out.congr (fun i _=>by simp),World.grownBy.refl _ _⟩
  case round =>
   obtain ⟨k,rfl,H,y,u⟩:=hrel;have d:=hid y;have e:=hid u;clear y u;by_cases F:k<n
   ·have hc:wr.cell? ⟨g,k,none⟩=some (.int .i64 (f k:Int)):=by
     have:=d.out.cell F;simpa using this
    have G:wr.frozen? ⟨g,k,none⟩=false:=d.out.frozen k;have o:=hid (m.out k).1;have p:=hid (m.out k).2;have C:=hid (fun v=>d.out.set k v);generalize f k=x at hc o p;by_cases z:x=c
    ·subst z
     go_wp2
     go_roundw
     case rel =>
      refine ⟨k+1,y31_,k29_,?_,Zk6 e.out (.inl rfl) _⟩;rw [← o.out rfl];exact C.out _
     case measure=>simp [intOf];omega
    ·have O:((x:Int)==(c:Int))=false:=by rw [beq_eq_false_iff_ne];omega
     go_wp2
     go_roundw
     case rel=>exact ⟨k+1,y31_,k29_,by rw [← p.out z];exact d.out,e.out⟩
     exact mz_
   ·have E:k=n:=by omega
    subst E;go_wp2
    go_end0
    exact ⟨rfl,d.out.congr (fun i c=>by simp [c]),e.out⟩
theorem Yt1 (g n:Nat) (f:Nat→Nat) (a b:Nat) (w:World) (d:Labels w g n f) (e:n≤64) :
  Calls Tryz.prog 187 #[.slice (some ⟨g,0,none⟩) n n,.int .i64 a,.int .i64 b] w (Xr5 w g n (M4_ f a b)):=by
 rcases Nat.lt_trichotomy a b with c | c | c
 ·refine Ya2 g n f _ a b a b ?_ c (.inl ⟨rfl,rfl⟩) w d e
  funext v
  unfold M4_;rw [Nat.max_eq_right k29_,Nat.min_eq_left k29_]
 ·subst c
  rw [Za0];have h:=hid d;clear d;have j:(n:Int)≤64:=k29_
  go_enter Tryz.func187,Tryz.ntmps187
  go_wp2;refine bodyPost_ret (results_none rfl _ _ _) rfl ?_;exact ⟨rfl,h.out,World.grownBy.refl _ _⟩
 ·refine Ya2 g n f _ a b b a ?_ c (.inr ⟨rfl,rfl⟩) w d e
  funext v
  unfold M4_;rw [Nat.max_eq_left k29_,Nat.min_eq_right k29_]
open Go.RowKit
def castE (ns:List (Nat × Nat)):List (Int × Int):=ns.map fun e=>((e.1:Int),(e.2:Int))
theorem K1_ (c:List (Nat × Nat)):(castE c).length=c.length:=by simp [castE]
theorem Yh2 (c:List (Nat × Nat)) (k:Nat):(castE c).getD k (0,0)=(((c.getD k (0,0)).1:Int),((c.getD k (0,0)).2:Int)):=by
 unfold castE;rw [List.getD_eq_getElem?_getD,List.getD_eq_getElem?_getD,List.getElem?_map];rcases c[k]? with _ | e<;>rfl
theorem Ve3 {m:Nat} {c:List (Nat × Nat)} (h:1≤m) (h2:m≤64) (h3:c.length≤4096) (d:Lies m c):isG m (castE c)=true:=by
 unfold isG sizeB;rw [Bool.and_eq_true,decide_eq_true_iff,List.all_eq_true];refine ⟨⟨k29_,k29_,by rw [K1_];exact h3⟩,fun e f=>?_⟩;obtain ⟨x,g,rfl⟩:=List.mem_map.1 f;have:=d x g;simp only [okE,decide_eq_true_iff];omega
def Zu8 (w:World) (m:Nat) (f:Nat→Nat) (e:Ending) (w':World):Prop :=
 ∃ g,e=.returned (.tuple #[.slice (some ⟨g,0,none⟩) m m,.int .i64 0])∧Labels w' g m f∧w.heap.size≤g∧Below w.heap.size w w'
def A8_ (ns:List (Nat × Nat)) (k:Nat):Nat→Nat:=compF (ns.take k)
theorem Ze6 {c:List (Nat × Nat)} {k:Nat} (d:k<c.length):A8_ c (k+1)=Q4_ (A8_ c k) (c.getD k (0,0)):=by
 unfold A8_;rw [List.take_succ_eq_append_getElem d,Zy2];simp [List.getD,d]
theorem Yt2 {m:Nat} {c:List (Nat × Nat)} (h:Lies m c) {k:Nat} (d:k<c.length):(c.getD k (0,0)).1<m∧(c.getD k (0,0)).2<m:=by
 have:=h c[k] (List.getElem_mem d);simpa [List.getD,d] using this
theorem Yh3 (m:Nat) (v:Value) (d:List (Nat × Nat)) (w:World) (Y:Edges w w.heap.size v (castE d)) (h1:1≤m) (h2:m≤64) (h3:d.length≤4096) (I:Lies m d) :
  Calls Tryz.prog 154 #[.int .i64 m,v] w (Zu8 w m (compF d)):=by
 have Hr:=hid Y;have Hg:=hid (Ve3 h1 h2 h3 I);have x6:=hid I;have hl:(castE d).length≤1048576:=by rw [K1_];omega
 obtain ⟨A,c,Z,_,J⟩:=Y;rw [K1_] at Z J;subst Z;have O:=hid J;clear J I;have x9:(m:Int)≤64:=k29_;have x8:1≤(m:Int):=k29_;have xa:(d.length:Int)≤4096:=k29_;have x7:=fun W=>run_make_row' 23 3 (.int .i64 0) 8 Tryz.underlying23 info3 rfl .i64 .i64 m k29_ k29_ W
 go_enter Tryz.func154,Tryz.ntmps154
 go_wp2_with fail
 refine (Yh0 m _ (castE d) w Hr.out hl Hg.out).mono ?_;rintro e E ⟨rfl,C⟩;obtain ⟨g,D⟩:∃ g,g=E.heap.size:=⟨_,rfl⟩;have F:Hid (w.heap.size≤g):=by
  show _≤_;rw [D];exact C.size
 have x4:Hid (Labels (E.alloc (.cells (madeCells #[.int .i64 0] m) 3)) g m (fun j=>if j<0 then j else 0)):=by
  show Labels _ _ _ _;rw [D];exact World.rowIs.congr (World.rowIs_made E (.int .i64 0) m 3) fun i _=>by simp
 have x1:Hid (Below w.heap.size w (E.alloc (.cells (madeCells #[.int .i64 0] m) 3))):=C.alloc C.size _;clear C;go_wp2;rw [← D];clear D x7
 go_loopw [18] (fun q wr=>∃ k:Nat,q=.int .i64 k∧k≤m∧Labels wr g m (fun j=>if j<k then j else 0)∧Below w.heap.size w wr) (fun q _=>m - (intOf q).toNat)
 case atStart=>exact ⟨0,rfl,Nat.zero_le _,x4.out,x1.out⟩
 case round =>
  obtain ⟨k,rfl,U,z,s⟩:=hrel;have o:=hid z;have h:=hid s;clear z s;by_cases r:k<m
  ·have hc:wr.cell? ⟨g,k,none⟩=some (.int .i64 0):=by
    have:=o.out.cell r;simpa using this
   have xb:wr.frozen? ⟨g,k,none⟩=false:=o.out.frozen k;go_wp2
   go_roundw
   case rel =>
    refine ⟨k+1,y31_,k29_,(o.out.set k k).congr fun i u=>?_,h.out.setCell F.out _⟩;by_cases K:i=k
    ·simp [K]
    ·by_cases X:i<k
     ·simp [K,X,show i<k+1 by omega]
     ·simp [K,X,show ¬ i<k+1 by omega]
   case measure=>simp [intOf];omega
  ·have L:k=m:=by omega
   have P:=hid (o.out.congr (f':=A8_ d 0) (fun i u=>by simp [A8_,compF,show i<k by omega]));clear o;go_wp2
   go_loopw [28] (fun q wr=>∃ k:Nat,q=.int .i64 k∧k≤d.length∧Labels wr g m (A8_ d k)∧Below w.heap.size w wr) (fun q _=>d.length - (intOf q).toNat)
   case atStart=>exact ⟨0,rfl,Nat.zero_le _,P.out,h.out⟩
   case round =>
    clear P h L r U;obtain ⟨k,rfl,U,z,s⟩:=hrel;have o:=hid z;have h:=hid s;clear z s;by_cases r:k<d.length
    ·obtain ⟨B,hA,hab,q1,q2⟩:=O.out k r
     subst hA;rw [Yh2] at q1 q2;simp only at q1 q2;have R:=(h.out.cell (p:=B.add (k * 2)) x31_).trans q1;have S:=(h.out.cell (p:=⟨(B.add (k * 2)).block,(B.add (k * 2)).off+1,none⟩) (by show (B.add (k * 2)).block<_;rw [Z4_];exact hab)).trans q2;clear q1 q2 O;have M:=Yt2 x6.out r;have Q:=hid (Ze6 r);obtain ⟨⟨x,y⟩,x0⟩:∃ e,e=d.getD k (0,0):=⟨_,rfl⟩;rw [← x0] at R S M Q;clear x0;simp only at R S M;obtain ⟨hx,hy⟩:=M;have xc:(x:Int)<m:=k29_;have xd:(y:Int)<m:=k29_;have H:=Blk.new wr 116 #[.int .i64 (x:Int),.int .i64 (y:Int)];have d0:=H.cell 0;have d1:=H.cell 1;simp only [List.getElem?_toArray,List.getElem?_cons_zero,List.getElem?_cons_succ] at d0 d1;have G:=hid (World.rowIs.alloc o.out (.cells #[.int .i64 (x:Int),.int .i64 (y:Int)] 116));have c1:=G.out.cell hx;have c2:=G.out.cell hy;have N:=hid (h.out.alloc h.out.size (.cells #[.int .i64 (x:Int),.int .i64 (y:Int)] 116));clear H;go_wp2;generalize wr.alloc (.cells #[.int .i64 (x:Int),.int .i64 (y:Int)] 116)=W at *
     generalize wr.heap.size=eb at *
     go_still_tail 11,q30_
     change wpList _ _ _ _ _ W.drew
     go_wp2_with fail
     refine (Yt1 g m (A8_ d k) (A8_ d k x) (A8_ d k y) W.drew G.out h2).mono ?_;rintro e w3 ⟨rfl,V,T⟩;have x5:=hid V;have x3:=hid T;clear V T;go_wp2
     go_roundw
     case rel =>
      refine ⟨k+1,y31_,k29_,by rw [Q.out];exact x5.out,N.out.trans ?_⟩;exact ((Below.refl w.heap.size W).drew).grown x3.out N.out.size (fun i u=>by injection u with u;rw [← u];exact F.out)
     case measure=>simp [intOf];omega
    ·have L:k=d.length:=by omega
     have x2:=hid (o.out.congr (f':=compF d) (fun i _=>by unfold A8_;rw [L,List.take_length]));go_wp2
     go_ret2
     exact ⟨g,rfl,x2.out,F.out,h.out⟩
open Go.RowKit Go.Maps
def castL (l:List Nat):List Int:=l.map fun v:Nat=>(v:Int)
def castP (pp:List (List Nat)):List (List Int):=pp.map castL
theorem D8_ (pp:List (List Nat)):(castP pp).length=pp.length:=by simp [castP]
theorem Xf7 {pp:List (List Nat)} {i:Nat} {p:List Nat} (h:pp[i]?=some p):(castP pp)[i]?=some (castL p):=by simp [castP,h]
theorem Yt3 (pp:List (List Nat)) (i:Nat) (p:List Nat):castP (pp.set i p)=(castP pp).set i (castL p):=by simp [castP,List.map_set]
theorem Zm2 (l:List Nat):(castL l).length=l.length:=by simp [castL]
theorem Yh4 (l:List Nat) (k:Nat):castL (l ++ [k])=castL l ++ [(k:Int)]:=by simp [castL]
def U2_ (D:DataW Unit) (f:Nat→Nat) (k:Nat):Prop:=∀ r,r<k→f r=r→D.atKey (.int .i64 (r:Int)) (.lit (.int .i64 0))=.lit (.int .i64 (cnt (rootB f) r:Int))
theorem law3:Keyed Tryz.prog 3 := int_keyed Tryz.underlying3
theorem zero3 (w:World):(zeroValue 3).run Tryz.prog w=.ok (.int .i64 0) w:=q30_
theorem Ve4:(Tryz.prog.info? 23).map (fun i=>(i.zero,i.size,i.bytes))=some (some (.slice none 0 0),1,24):=q30_
theorem Zu9 {D:DataW Unit} {f:Nat→Nat} {k:Nat} (h:U2_ D f k) (d:f k≠k):U2_ D f (k+1):=by
 intro r g c;by_cases e:r=k
 ·subst e;exact absurd c d
 ·exact h r k29_ c
theorem isMap_of {w:World} {b n:Nat} {D:DataW Unit} (h:w.ownsMap Tryz.prog 3 (plainElem Tryz.prog 3) b n D):IsMap D:=by
 obtain ⟨_,_,_,_,_,c⟩:=h;exact ⟨_,c⟩
theorem Yh5 {D:DataW Unit} {f:Nat→Nat} {k:Nat} (h:U2_ D f k) (c:IsMap D):U2_ (D.put (.int .i64 (k:Int)) (.lit (.int .i64 (cnt (rootB f) k:Int)))) f (k+1):=by
 intro r j d;by_cases g:r=k
 ·subst g
  exact atKey_put_same c (show WideAt.IsKeyLit (.int .i64 (r:Int)) from trivial) _ _
 ·rw [atKey_put_other (by intro e;injection e;omega)]
  exact h r k29_ d
def Yt4 (w:World) (pp:List (List Int)) (e:Ending) (w':World):Prop :=
 ∃ v,e=.returned (.tuple #[v,.int .i64 0])∧Rows2 w' w'.heap.size v pp∧Below w.heap.size w w'
theorem Yh6 (m:Nat) (v:Value) (I:List (Nat × Nat)) (w:World) (K:Edges w w.heap.size v (castE I)) (h1:1≤m) (h2:m≤64) (h3:I.length≤4096) (h4:Lies m I) :
  Calls Tryz.prog 128 #[.int .i64 m,v] w (Yt4 w (castP (A2_ m (compF I)))):=by
 have Hr:=hid K;have Hc:=hid (Yh3 m v I w K h1 h2 h3 h4);have za:(m:Int)≤64:=k29_;have z9:1≤(m:Int):=k29_;have R:=hid (Vz5 I);have Q:=hid (Yr8 I);obtain ⟨A,c,rfl,_⟩:=K;clear h4 h3;have z3:=@run_makeMap Tryz.prog
 go_enter Tryz.func128,Tryz.ntmps128
 go_wp2_with fail
 refine Hc.out.mono ?_;rintro e z ⟨g,rfl,y5,hg,xi⟩;generalize compF I=f at *
 have xt:=hid y5;clear Hc y5 Hr;have y3:g<z.heap.size:=World.rowIs.lt xt.out;obtain ⟨d,G⟩:∃ d,d=z.heap.size:=⟨_,rfl⟩;have xu:Hid ((z.alloc (.map #[] 0)).ownsMap Tryz.prog 3 (plainElem (H:=Unit) Tryz.prog 3) d 0 (.map [])):=by
  show World.ownsMap _ _ _ _ _ _ _;rw [G];exact World.ownsMap_made z Tryz.prog 3 _
 have xo:Hid (Below d z (z.alloc (.map #[] 0))):=by
  show Below _ _ _;rw [G];exact (Below.refl _ z).alloc (Nat.le_refl _) _
 have xx:Hid (d+1≤(z.alloc (.map #[] 0)).heap.size):=by
  show _≤_;rw [G];simp
 have yp:Hid (w.heap.size≤d):=by
  show _≤_;rw [G];exact xi.size
 have yy:g<d:=by rw [G];exact y3
 have yi:=hid xi;clear xi y3;go_wp2;rw [← G];have z8:=hid G;clear G z3
 go_loopw [8,25] (fun vp vk wr=>∃ (k:Nat) (vs:List Value) (D:DataW Unit),vk=.int .i64 k∧k≤m∧wr.ownsRow (d+1) 23 1 vp vs.length vs∧Fam wr (d+1) vs (castP (A2_ k f)) ∧
   wr.ownsMap Tryz.prog 3 (plainElem Tryz.prog 3) d k D∧U2_ D f k∧Below d z wr∧d+1≤wr.heap.size) (fun _ vk _=>m - (intOf vk).toNat)
 case atStart=>exact ⟨0,[],.map [],rfl,Nat.zero_le _,World.ownsRow_nil _ _ _ _,Xu1 _ _,xu.out,fun r K=>absurd K k29_,xo.out,xx.out⟩
 case round =>
  obtain ⟨k,vs,D,rfl,hk,xm,y2,y7,x6,y0,yd⟩:=hrel;clear xu xo xx;obtain ⟨vA,vc,rfl⟩:=Zz9 xm;have x3:=hid xm;have x1:=hid y2;have xc:=hid y7;have xw:=hid x6;have Z:=hid y0;clear xm y2 y7 x6 y0;by_cases z2:k<m
  ·have hc:wr.cell? ⟨g,k,none⟩=some (.int .i64 (f k:Int)):=(Z.out.cell (p:=⟨g,k,none⟩) (yy)).trans (xt.out.cell z2)
   have xh:Hid (vs.length=cnt (rootB f) k):=by
    show _=_;rw [x1.out.1,D8_,J9_]
   have ze:vs.length≤64:=by
    rw [xh.out];have:=C9_ (rootB f) k;omega
   have zf:(vs.length:Int)≤64:=k29_;obtain ⟨x,Y⟩:∃ x,x=f k:=⟨_,rfl⟩;rw [← Y] at hc;have zh:x≤k:=by rw [Y];exact R.out k
   have yl:Hid (f x=x):=by
    show f x=x;rw [Y];exact Q.out k
   have xz:=hid (WalkArith.wf_i64 (n:=(x:Int)) k29_);have yu:=hid (WalkArith.wf_i64 (n:=(vs.length:Int)) k29_);have N:=hid Y;clear Y;by_cases V:x=k
   case' pos =>
    have S:=hid V;have z1:((k:Int)==(x:Int))=true:=by simp [V]
    clear V
    go_wp2_with (at_mapUpdate;refine wpList_mapUpdate_own _ rfl _ _ _ 151 rfl 3 3 law3 Tryz.underlying151 _ d k _ rfl xc.out k31_ _ _ _ rfl rfl (keyOf_int_mk Tryz.underlying3 xz.out) _ [] (plainElem_int Tryz.underlying3 yu.out) ?_)
    intro w2 y8 y4;have xv:=hid y8;have P:=hid y4;clear y8 y4;have z5:d+1≤w2.heap.size:=Nat.le_trans yd P.out.size;have yh:∀ q,(Value.slice vA vs.length vc).ownBlock=some q→d+1≤q:=fun q hq=>(x3.out.lt q hq).1;have x4:=hid yh;clear yh;have xe:=hid (x3.out.kept P.out (by
     rcases hb:(Value.slice vA vs.length vc).ownBlock with _ | q
     ·exact .inl rfl
     ·right
      intro C;injection C with C;have:=x4.out q hb;omega))
    have x2:=hid (x1.out.apart P.out k29_);have xp:=hid (Z.out.grown P.out k29_ (fun i o=>by injection o with o;omega));have J:=(Blk.new w2 23 #[.slice none 0 0]).cell 0;simp only [List.getElem?_toArray,List.getElem?_cons_zero] at J;have x0:=hid J;clear J
    go_wp2_with (at_builtin;refine V7_ rfl _ _ 35 23 (.slice none 0 0) 24 rfl Tryz.underlying35 Ve4 rfl (d+1) _ (.slice none 0 0) vs rfl (xe.out.alloc _) w2.heap.size rfl x0.out rfl k29_ k29_ k30_ ?_)
    intro z7 j ya U _;obtain ⟨s,hD⟩:∃ s,s=D.put (.int .i64 (x:Int)) (.lit (.int .i64 (vs.length:Int))):=⟨_,rfl⟩;have xf:Hid (U2_ s f (k+1)):=by
     show U2_ _ _ _;rw [hD,S.out,xh.out];exact Yh5 xw.out (isMap_of xc.out)
    have xd:Hid (j.ownsMap Tryz.prog 3 (plainElem Tryz.prog 3) d (k+1) s):=by
     show World.ownsMap _ _ _ _ _ _ _;rw [hD];refine (xv.out.alloc _).kept U ?_;intro C;have:=x4.out d C.symm;omega
    have xq:=hid ((xp.out.alloc k29_ (.cells #[.slice none 0 0] 23)).grown U k30_ (fun i o=>by have:=x4.out i o;omega));have z6:d+1≤j.heap.size:=Nat.le_trans k30_ U.size;obtain ⟨vt,x7⟩:∃ vt,vt=vs ++ [.slice none 0 0]:=⟨_,rfl⟩;have M:Hid (j.ownsRow (d+1) 23 1 z7 vt.length vt):=by
     show World.ownsRow _ _ _ _ _ _ _;rw [x7,List.length_append];exact ya
    have O:Hid (Fam j (d+1) vt (castP (Y9_ k f))):=by
     show Fam _ _ _ _;have K:castP (Y9_ k f)=castP (A2_ k f) ++ [[]]:=by
      unfold Y9_;rw [← N.out,if_pos S.out];simp [castP,castL]
     rw [x7,K];refine Fam.more ?_;refine (x2.out.new (World.grownBy_alloc _ (.cells #[.slice none 0 0] 23) none)).kept U ?_;intro v W;obtain ⟨i,o,rfl⟩:=List.mem_iff_getElem.1 W;have xl:i<(castP (A2_ k f)).length:=by rw [← x2.out.1];exact o
     exact Yj1 (x2.out.2.1 i _ _ (List.getElem?_eq_getElem o) (List.getElem?_eq_getElem xl)) xe.out x30_
    have X:0<vt.length:=by rw [x7,List.length_append];simp
    obtain ⟨go,T,rfl,yz⟩:=O1_ M.out X;clear hD x7 X ya U x0 xp x2 xe x4 xv P z5
   case' neg =>
    have S:=hid V;have z1:((k:Int)==(x:Int))=false:=by rw [beq_eq_false_iff_ne];omega
    clear V;obtain ⟨j,rfl⟩:∃ j,j=wr:=⟨_,rfl⟩;obtain ⟨vt,rfl⟩:∃ vt,vt=vs:=⟨_,rfl⟩;obtain ⟨s,rfl⟩:∃ s,s=D:=⟨_,rfl⟩;have xf:Hid (U2_ s f (k+1)):=Zu9 xw.out (by rw [← N.out];exact S.out);have xd:=hid (xc.out.mono (Nat.le_succ k));have xq:=Z;have z6:=yd;have M:=x3;have O:Hid (Fam j (d+1) vt (castP (Y9_ k f))):=by
     show Fam _ _ _ _;unfold Y9_;rw [← N.out,if_neg S.out];exact x1.out
    have X:0<vt.length:=by
     rw [O.out.1,D8_];exact Nat.lt_of_le_of_lt (Nat.zero_le _) (Zt7 (k:=k) R.out Q.out)
    obtain ⟨go,T,W,yz⟩:=O1_ M.out X;injection W with hv1 _ hv2;subst hv1;obtain rfl:T=vc:=hv2.symm;clear X
   all_goals
    go_wp2_with (at_lookup;refine wpList_lookup_own_int _ rfl _ _ 151 rfl 3 3 .i64 law3 Tryz.underlying151 Tryz.underlying3 (zero3 _) d (k+1) s rfl xd.out _ _ rfl (keyOf_int_mk Tryz.underlying3 xz.out) ?_)
    intro c y _;rw [xf.out x k29_ yl.out] at y;obtain rfl:c=(cnt (rootB f) x:Int):=by injection y with y;injection y with _ y;exact y.symm
    clear y;have yb:cnt (rootB f) x<(Y9_ k f).length:=by rw [N.out];exact Zt7 R.out Q.out
    have y:(Y9_ k f)[cnt (rootB f) x]?=some (J4_ k f x):=by rw [N.out];exact Vz6 R.out Q.out
    have yq:Hid (castP (A2_ (k+1) f)=(castP (Y9_ k f)).set (cnt (rootB f) x) (castL (J4_ k f x) ++ [(k:Int)])):=by
     show _=_;rw [Yg0 R.out Q.out,Yt3,Yh4,← N.out]
    generalize cnt (rootB f) x=q at *
    have xn:vt.length=(Y9_ k f).length:=by rw [O.out.1,D8_]
    have z4:q<vt.length:=by rw [xn];exact yb
    have zg:vt.length≤65:=by
     rw [xn,Zy5];have:=C9_ (rootB f) (k+1);omega
    have hu:vt[q]?=some vt[q]:=List.getElem?_eq_getElem z4;have x5:=O.out.2.1 q _ _ hu (Xf7 y);have y1:=M.out.cells (g:=go) rfl q _ hu;have yx:j.cell? ⟨go,q,none⟩=some vt[q]:=by
     rw [← y1];unfold Addr.add;split<;>simp_all
    clear y1;have x6:(castL (J4_ k f x)).length≤64:=by
     rw [Zm2];have:=Ze0 k f x;omega
    generalize vt[q]=u at *
    have zd:(q:Int)<(vt.length:Int):=k29_;obtain ⟨h,x9⟩:∃ h,h=ints (castL (J4_ k f x)):=⟨_,rfl⟩;have x8:h.length=(castL (J4_ k f x)).length:=by rw [x9,Y2_]
    rw [← x9,← x8] at x5;rw [← x8] at x6;obtain ⟨uA,uc,rfl⟩:=Zz9 x5;have xb:=hid x5;have Hu:=hid hu;have yw:=hid x9;have yv:=hid x8;clear x5 hu y yb xn xh x9 x8;have J:=(Blk.new j 3 #[.int .i64 (k:Int)]).cell 0;simp only [List.getElem?_toArray,List.getElem?_cons_zero] at J;have x0:=hid J;clear J;have yf:(j.alloc (.cells #[.int .i64 (k:Int)] 3)).heap.size=j.heap.size+1:=y30_;have xg:=hid yf;have yg:∀ i,(Value.slice uA h.length uc).ownBlock=some i→d+1≤i:=fun i o=>(xb.out.lt i o).1;have xy:=hid yg;clear yf yg
    go_wp2_with (at_builtin;refine V7_ rfl _ _ 23 3 (.int .i64 0) 8 rfl Tryz.underlying23 info3 rfl (d+1) _ (.int .i64 (k:Int)) h rfl (xb.out.alloc _) j.heap.size rfl x0.out rfl k29_ k29_ (by rw [xg.out];omega) ?_)
    intro u5 B xk xj y6;have xa:=hid ((World.grownBy_alloc j (.cells #[.int .i64 (k:Int)] 3) (Value.slice uA h.length uc).ownBlock).trans xj);have y9:(Value.slice (some ⟨go,0,none⟩) vt.length T).ownBlock=none∨(Value.slice (some ⟨go,0,none⟩) vt.length T).ownBlock≠(Value.slice uA h.length uc).ownBlock:=Yj1 M.out xb.out x30_;have L:=hid (M.out.kept xa.out y9);have zb:B.cell? ⟨go,q,none⟩=some (.slice uA h.length uc):=by rw [L.out.cellAt q k29_];exact Hu.out
    have zc:B.frozen? ⟨go,q,none⟩=false:=L.out.frozenAt q;have ym:=hid xk;have xr:=hid xj;have yn:=hid y6;obtain ⟨E,F,rfl⟩:=Zz9 xk;clear xk xj y6 y9 yx;have ye:(j.alloc (.cells #[.int .i64 (k:Int)] 3)).heap.size≤B.heap.size:=xr.out.size;have yk:Hid (Fam (B.setCell ⟨go,q,none⟩ (.slice E (h.length+1) F)) (d+1) (vt.set q (.slice E (h.length+1) F)) (castP (A2_ (k+1) f))):=by
     show Fam _ _ _ _;rw [yq.out];have hq:ints (castL (J4_ k f x) ++ [(k:Int)])=h ++ [.int .i64 (k:Int)]:=by rw [X8_,yw.out];rfl
     have h5:Fam B (d+1) (vt.set q (.slice E (h.length+1) F)) ((castP (Y9_ k f)).set q (castL (J4_ k f x) ++ [(k:Int)])):=by
      refine (O.out.new (World.grownBy_alloc _ (.cells #[.int .i64 (k:Int)] 3) none)).grow Hu.out xr.out ?_ (by rw [xg.out];exact yn.out);rw [hq,List.length_append,← yv.out];exact ym.out
     refine h5.kept (row:=some go) (L.out.stored q _).2 ?_;intro v W;obtain ⟨i,o,rfl⟩:=List.mem_iff_getElem.1 W;have xl:i<((castP (Y9_ k f)).set q (castL (J4_ k f x) ++ [(k:Int)])).length:=by rw [← h5.1];exact o
     exact Yj1 (h5.2.1 i _ _ (List.getElem?_eq_getElem o) (List.getElem?_eq_getElem xl)) L.out x30_
    have yr:Hid ((B.setCell ⟨go,q,none⟩ (.slice E (h.length+1) F)).ownsRow (d+1) 23 1 (.slice (some ⟨go,0,none⟩) vt.length T) (vt.set q (.slice E (h.length+1) F)).length (vt.set q (.slice E (h.length+1) F))):=by
     show World.ownsRow _ _ _ _ _ _ _;rw [List.length_set];exact (L.out.stored q _).1
    have yo:Hid ((B.setCell ⟨go,q,none⟩ (.slice E (h.length+1) F)).ownsMap Tryz.prog 3 (plainElem Tryz.prog 3) d (k+1) s):=by
     refine (xd.out.kept xa.out ?_).kept (row:=some go) (L.out.stored q _).2 ?_
     ·intro C
      have:=xy.out d C.symm;omega
     ·intro C
      injection C with C;omega
    have yj:Hid (Below d z (B.setCell ⟨go,q,none⟩ (.slice E (h.length+1) F))):=by
     refine (xq.out.grown xa.out k29_ (fun i o=>by have:=xy.out i o;omega)).setCell ?_ _;show d≤go;omega
    have yc:d+1≤(B.setCell ⟨go,q,none⟩ (.slice E (h.length+1) F)).heap.size:=by
     have:j.heap.size+1≤B.heap.size:=by rw [← xg.out];exact ye
     simp [World.setCell];omega
    have yt:=hid yc;clear yc ye;go_wp2
    go_roundw
    case rel=>exact ⟨k+1,_,s,y31_,k29_,yr.out,yk.out,yo.out,xf.out,yj.out,yt.out⟩
    exact mz_
  ·have z0:k=m:=by omega
   have ys:=hid (x1.out.rows x3.out);subst z0;go_wp2
   go_ret2
   refine ⟨_,rfl,ys.out,yi.out.trans (Z.out.mono yp.out)⟩
open Go.RowKit
def Ve5 (w:World) (x:Int) (e:Ending) (w':World):Prop:=e=.returned (.int .i64 x)∧Below w.heap.size w w'
def rankN (m:Nat) (ns:List (Nat × Nat)):Int:=(m:Int) - (D1_ m ns:Int)
theorem Yt5 (m:Nat) (v:Value) (d:List (Nat × Nat)) (w:World) (h:Edges w w.heap.size v (castE d)) (p:1≤m) (h2:m≤64) (h3:d.length≤4096) (g:Lies m d) :
  Calls Tryz.prog 100 #[.int .i64 m,v] w (Ve5 w (rankN m d)):=by
 have o:=hid (Yh6 m v d w h p h2 h3 g);have x:(m:Int)≤64:=k29_;have u:1≤(m:Int):=k29_;obtain ⟨A,c,rfl,_⟩:=h;clear g h3
 go_enter Tryz.func100,Tryz.ntmps100
 go_wp2_with fail
 refine o.out.mono ?_;rintro e C ⟨B,rfl,r,q⟩;obtain ⟨s,c1,rfl,_⟩:=r;rw [D8_,J9_];have y:=C9_ (rootB (compF d)) m;have j:Hid ((m:Int) - (cnt (rootB (compF d)) m:Int)=rankN m d):=rfl;generalize cnt (rootB (compF d)) m=k at *
 have z:(k:Int)≤m:=k29_;go_wp2;go_ret;exact ⟨by rw [← j.out];rfl,q⟩
end Go.Proofs.YtheeajnkiniopaaGreatDoor.Wp
