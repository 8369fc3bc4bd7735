/- Graphs in memory, and the program's components, walked. The program's parts and rank of a graph, walked. -/
import Derived.Test.YtgpljiijjnaofaaGreatDoorZP
import Derived.Test.YtgpljiijjnaofaaGreatDoorGPlaces
import Derived.Deep.Slices
import Derived.Deep.OwnRows
import Derived.LoopN
import Derived.StillTailTactics
import Derived.Maps.OwnOps
import Derived.Maps.Views
import Derived.Laws.AppendOwnNone
import Derived.Maps.AppendAt
import Derived.Test.YtgpljiijjnaofaaGreatDoorX0A
import Derived.Test.YtgpljiijjnaofaaGreatDoorX0C
set_option maxHeartbeats 8000000
set_option maxRecDepth 100000
open Go.Lib (hid)
namespace Go.Proofs.YtgpljiijjnaofaaGreatDoor
open Go.RowKit
namespace Wp
def Edges (w:World) (B:Nat) (v:Value) (es:List (Int × Int)):Prop :=
 ∃ A c,v=.slice A es.length c∧(es.length≤c∧c≤maxLen∧(A=none→c=0)) ∧
  ∀ k,k<es.length→∃ ad:Addr,A=some ad∧ad.block<B∧w.cell? (ad.add (k * 2))=some (.int .i64 (es.getD k (0,0)).1)∧w.cell? ⟨(ad.add (k * 2)).block,(ad.add (k * 2)).off+1,none⟩=some (.int .i64 (es.getD k (0,0)).2)
open Go.RowKit
def okE (n:Int) (e:Int × Int):Bool:=decide (0≤e.1∧e.1<n∧0≤e.2∧e.2<n)
def sizeB (n:Int) (es:List (Int × Int)):Bool:=decide (1≤n∧n≤64∧es.length≤4096)
def isG (n:Int) (es:List (Int × Int)):Bool:=sizeB n es && es.all (okE n)
theorem Vg4 {n:Int} {es:List (Int × Int)} (h:¬ (1≤n∧n≤64∧es.length≤4096)):isG n es=false:=by
 unfold isG sizeB;rw [decide_eq_false h];rfl
theorem Zp0 {es:List (Int × Int)} {k:Nat} (c:k<es.length):es.getD k (0,0)=es[k]:=by simp [List.getD,c]
theorem isG_bad {n:Int} {es:List (Int × Int)} {k:Nat} (c:k<es.length) (h:okE n (es.getD k (0,0))=false):isG n es=false:=by
 unfold isG;rw [Bool.and_eq_false_iff];right;rw [← Bool.not_eq_true,List.all_eq_true];intro d;have:=d _ (List.getElem_mem c);rw [Zp0 c,this] at h;cases h
def Yb7 (n:Int) (es:List (Int × Int)) (k:Nat):Prop:=∀ j,j<k→okE n (es.getD j (0,0))=true
theorem Yy5 {n:Int} {es:List (Int × Int)} {k:Nat} (h:Yb7 n es k) (d:okE n (es.getD k (0,0))=true):Yb7 n es (k+1):=by
 intro j e;by_cases c:j=k
 ·rw [c];exact d
 ·exact h j k30_
theorem isG_end {n:Int} {es:List (Int × Int)} (c:1≤n∧n≤64∧es.length≤4096) {k:Nat} (g:k=es.length) (h:Yb7 n es k):isG n es=true:=by
 unfold isG sizeB;rw [decide_eq_true c,Bool.true_and,List.all_eq_true];intro e d;obtain ⟨j,f,rfl⟩:=List.mem_iff_getElem.1 d;have:=h j k30_
 rwa [Zp0 f] at this
theorem idx0 (x y:Int) (w:World):(Instr.index 103 (.agg #[.int .i64 x,.int .i64 y]) (.int .i64 0)).run Tryz.prog w=.ok (.int .i64 x) w:=q31_
theorem idx1 (x y:Int) (w:World):(Instr.index 103 (.agg #[.int .i64 x,.int .i64 y]) (.int .i64 1)).run Tryz.prog w=.ok (.int .i64 y) w:=q31_
theorem Yk9 (n:Int) (v:Value) (es:List (Int × Int)) (w:World) (Q:Edges w w.heap.size v es) (O:1≤n) (P:n≤64) (N:es.length≤4096) :
  Calls Tryz.prog 190 #[.int .i64 n,v] w (Says w (isG n es)):=by
 obtain ⟨A,c,rfl,_,C⟩:=Q;have s:=hid C;clear C;have r:=hid (fun k=>@isG_bad n es k);have J:=hid (fun k=>@isG_end n es ⟨O,P,N⟩ k);have X:=idx0;have Y:=idx1;have W:(es.length:Int)≤4096:=k30_
 go_enter Tryz.func190,Tryz.ntmps190
 go_wp2
 go_loopw [22] (fun q wr=>∃ k:Nat,q=.int .i64 k∧k≤es.length∧Below w.heap.size w wr∧Yb7 n es k) (fun q _=>es.length - (intOf q).toNat)
 case atStart=>exact ⟨0,rfl,Nat.zero_le _,Below.refl _ _,fun j M=>absurd M k30_⟩
 case round =>
  obtain ⟨k,rfl,V,G,F⟩:=hrel;have Hwr:=hid G;clear G;have u:=hid F;clear F;by_cases E:k<es.length
  ·obtain ⟨d,hA,hab,z,B⟩:=s.out k E
   subst hA;have T:wr.cell? (d.add (k * 2))=some (.int .i64 (es.getD k (0,0)).1):=((Hwr.out).cell y32_).trans z;have U:wr.cell? ⟨(d.add (k * 2)).block,(d.add (k * 2)).off+1,none⟩=some (.int .i64 (es.getD k (0,0)).2):=((Hwr.out).cell (by show (d.add (k * 2)).block<_;rw [Z2_];exact hab)).trans B;have Hno:=hid (r.out k E);have L:=hid (Yy5 (n:=n) (es:=es) (k:=k) u.out);clear z B r s;have e:Hid (okE n (es.getD k (0,0))=decide (0≤(es.getD k (0,0)).1∧(es.getD k (0,0)).1<n∧0≤(es.getD k (0,0)).2∧(es.getD k (0,0)).2<n)):=rfl;generalize (es.getD k (0,0)).1=x at *
   generalize (es.getD k (0,0)).2=y at *
   by_cases h:0≤x∧x<n
   ·obtain ⟨R,H⟩:=h
    by_cases o:0≤y∧y<n
    ·obtain ⟨S,I⟩:=o
     have Hx:Hid (okE n (es.getD k (0,0))=true):=by
      show okE n (es.getD k (0,0))=true;rw [e.out];simp [R,H,S,I]
     go_wp2;refine wp_loop_rounds 3 ?_;rw [rounds_succ];go_wp2;rw [rounds_succ];go_wp2;rw [rounds_succ];go_wp2
     go_roundw
     case rel=>exact ⟨k+1,z32_,k30_,(Hwr.out).alloc (Hwr.out).size _,L.out Hx.out⟩
     case measure=>simp [intOf];omega
    ·have Hx:Hid (okE n (es.getD k (0,0))=false):=by
      show okE n (es.getD k (0,0))=false;rw [e.out,decide_eq_false_iff_not];rintro ⟨_,_,h3,g⟩;exact o ⟨h3,g⟩
     have p:y<0∨n≤y:=k30_;clear o;rcases p with p | p
     ·exact x28_
     ·have I:0≤y:=by omega
      exact x28_
   ·have Hx:Hid (okE n (es.getD k (0,0))=false):=by
     show okE n (es.getD k (0,0))=false;rw [e.out,decide_eq_false_iff_not];rintro ⟨h3,g,_⟩;exact h ⟨h3,g⟩
    have m:x<0∨n≤x:=k30_;clear h;rcases m with m | m
    ·go_wp2
     refine wp_loop_rounds 3 ?_;exact k5_
    ·have H:0≤x:=by omega
     go_wp2;refine wp_loop_rounds 3 ?_;exact k5_
  ·have D:k=es.length:=by omega
   have K:=hid (J.out k D u.out);subst D;go_wp2;go_ret;exact V3_ K.out rfl Hwr.out
theorem Yy6 (n:Int) (v:Value) (es:List (Int × Int)) (w:World) (d:Edges w w.heap.size v es) (hl:es.length≤1048576) :
  Calls Tryz.prog 190 #[.int .i64 n,v] w (Says w (isG n es)):=by
 by_cases h:1≤n∧n≤64∧es.length≤4096
 ·exact Yk9 n v es w d h.1 h.2.1 h.2.2
 ·have Hno:=hid (Vg4 h)
  have g:=hid d;obtain ⟨A,c,rfl,_⟩:=d;have k:(es.length:Int)≤1048576:=k30_;have h3:n<1∨(1≤n∧64<n)∨(1≤n∧n≤64∧4096<(es.length:Int)):=k30_;clear h;rcases h3 with h3 | ⟨h3,e⟩ | ⟨h3,e,j⟩
  ·exact j6_
  ·exact j6_
  ·exact j6_
theorem Yl0 (n:Int) (v:Value) (es:List (Int × Int)) (w:World) (c:Edges w w.heap.size v es) (hl:es.length≤1048576) {b:Bool} (hb:isG n es=b) :
  Calls Tryz.prog 190 #[.int .i64 n,v] w (Says w b):=by
 subst hb;exact Yy6 n v es w c hl
open Go.RowKit
def Labels (w:World) (g n:Nat) (f:Nat→Nat):Prop:=w.rowIs g 3 n fun i=>.int .i64 (f i:Int)
theorem Labels.congr {w:World} {g n:Nat} {f f':Nat→Nat} (h:Labels w g n f) (e:∀ i,i<n→f i=f' i):Labels w g n f':=World.rowIs.congr h fun i hi=>by rw [e i hi]
theorem Labels.set {w:World} {g n:Nat} {f:Nat→Nat} (h:Labels w g n f) (i:Nat) (v:Nat):Labels (w.setCell ⟨g,i,none⟩ (.int .i64 (v:Int))) g n (fun j=>if j=i then v else f j) :=
 World.rowIs.congr (World.rowIs.set h i _) fun j _=>j14_
def Xs8 (w:World) (g n:Nat) (f:Nat→Nat) (e:Ending) (w':World):Prop:=e=.returned (.tuple #[])∧Labels w' g n f∧w.grownBy w' (some g)
theorem Yl1 {f f':Nat→Nat} {lo hi k:Nat} (h:f'=fun v=>if f v=hi then lo else f v) :
  (f k=hi→(fun j=>if j=k then lo else if j<k then f' j else f j)=fun j=>if j<k+1 then f' j else f j)∧(f k≠hi→(fun j=>if j<k then f' j else f j)=fun j=>if j<k+1 then f' j else f j):=by
 subst h;constructor
 ·intro e
  funext j
  by_cases c:j=k
  ·subst c;simp [e]
  ·by_cases d:j<k
   ·simp [c,d,show j<k+1 by omega]
   ·simp [c,d,show ¬ j<k+1 by omega]
 ·intro e
  funext j
  by_cases c:j=k
  ·subst c;simp [e]
  ·by_cases d:j<k
   ·simp [d,show j<k+1 by omega]
   ·simp [d,show ¬ j<k+1 by omega]
theorem Yb8 (g n:Nat) (f f':Nat→Nat) (a b lo hi:Nat) (s:f'=fun v=>if f v=hi then lo else f v) (I:lo<hi) (D:(lo=a∧hi=b)∨(hi=a∧lo=b)) (w:World) (r:Labels w g n f) (J:n≤64) :
  Calls Tryz.prog 191 #[.slice (some ⟨g,0,none⟩) n n,.int .i64 a,.int .i64 b] w (Xs8 w g n f'):=by
 have B:=hid r;clear r;have h:=hid (fun k=>Yl1 (k:=k) s);clear s;have K:(n:Int)≤64:=k30_;have L:((lo:Int)==(hi:Int))=false:=by rw [beq_eq_false_iff_ne];omega
 have M:((hi:Int)==(lo:Int))=false:=by rw [beq_eq_false_iff_ne];omega
 have N:¬ hi<lo:=k30_;rcases D with ⟨p,q⟩ | ⟨p,q⟩
 all_goals
  subst p;subst q
  go_enter Tryz.func191,Tryz.ntmps191
  go_wp2
  go_loopw [21] (fun e wr=>∃ k:Nat,e=.int .i64 k∧k≤n∧Labels wr g n (fun j=>if j<k then f' j else f j)∧w.grownBy wr (some g)) (fun e _=>n - (intOf e).toNat)
  case atStart=>exact ⟨0,rfl,Nat.zero_le _,B.out.congr (fun i _=>by simp),World.grownBy.refl _ _⟩
  case round =>
   obtain ⟨k,rfl,H,y,u⟩:=hrel;have c:=hid y;have d:=hid u;clear y u;by_cases F:k<n
   ·have hc:wr.cell? ⟨g,k,none⟩=some (.int .i64 (f k:Int)):=by
     have:=c.out.cell F;simpa using this
    have G:wr.frozen? ⟨g,k,none⟩=false:=c.out.frozen k;have m:=hid (h.out k).1;have o:=hid (h.out k).2;have C:=hid (fun v=>c.out.set k v);generalize f k=x at hc m o;by_cases z:x=hi
    ·subst z
     go_wp2
     go_roundw
     case rel =>
      refine ⟨k+1,z32_,k30_,?_,L2_ d.out (.inl rfl) _⟩;rw [← m.out rfl];exact C.out _
     case measure=>simp [intOf];omega
    ·have O:((x:Int)==(hi:Int))=false:=by rw [beq_eq_false_iff_ne];omega
     go_wp2
     go_roundw
     case rel=>exact ⟨k+1,z32_,k30_,by rw [← o.out z];exact c.out,d.out⟩
     case measure=>simp [intOf];omega
   ·have E:k=n:=by omega
    subst E;go_wp2
    go_end0
    exact ⟨rfl,c.out.congr (fun i hi=>by simp [hi]),d.out⟩
theorem Xv3 (g n:Nat) (f:Nat→Nat) (a b:Nat) (w:World) (d:Labels w g n f) (e:n≤64) :
  Calls Tryz.prog 191 #[.slice (some ⟨g,0,none⟩) n n,.int .i64 a,.int .i64 b] w (Xs8 w g n (M7_ f a b)):=by
 rcases Nat.lt_trichotomy a b with c | c | c
 ·refine Yb8 g n f _ a b a b ?_ c (.inl ⟨rfl,rfl⟩) w d e
  funext v
  unfold M7_;rw [Nat.max_eq_right k30_,Nat.min_eq_left k30_]
 ·subst c
  rw [Za3];have h:=hid d;clear d;have j:(n:Int)≤64:=k30_
  go_enter Tryz.func191,Tryz.ntmps191
  go_wp2;refine bodyPost_ret (results_none rfl _ _ _) rfl ?_;exact ⟨rfl,h.out,World.grownBy.refl _ _⟩
 ·refine Yb8 g n f _ a b b a ?_ c (.inr ⟨rfl,rfl⟩) w d e
  funext v
  unfold M7_;rw [Nat.max_eq_left k30_,Nat.min_eq_right k30_]
open Go.RowKit
def castE (ns:List (Nat × Nat)):List (Int × Int):=ns.map fun e=>((e.1:Int),(e.2:Int))
theorem L4_ (c:List (Nat × Nat)):(castE c).length=c.length:=by simp [castE]
theorem Yl2 (c:List (Nat × Nat)) (k:Nat):(castE c).getD k (0,0)=(((c.getD k (0,0)).1:Int),((c.getD k (0,0)).2:Int)):=by
 unfold castE;rw [List.getD_eq_getElem?_getD,List.getD_eq_getElem?_getD,List.getElem?_map];rcases c[k]? with _ | e<;>rfl
theorem Vg5 {m:Nat} {c:List (Nat × Nat)} (h:1≤m) (j:m≤64) (h3:c.length≤4096) (d:Lies m c):isG m (castE c)=true:=by
 unfold isG sizeB;rw [Bool.and_eq_true,decide_eq_true_iff,List.all_eq_true];refine ⟨⟨k30_,k30_,by rw [L4_];exact h3⟩,fun e f=>?_⟩;obtain ⟨x,g,rfl⟩:=List.mem_map.1 f;have:=d x g;simp only [okE,decide_eq_true_iff];omega
def Yy7 (w:World) (m:Nat) (f:Nat→Nat) (e:Ending) (w':World):Prop :=
 ∃ g,e=.returned (.tuple #[.slice (some ⟨g,0,none⟩) m m,.int .i64 0])∧Labels w' g m f∧w.heap.size≤g∧Below w.heap.size w w'
def B4_ (ns:List (Nat × Nat)) (k:Nat):Nat→Nat:=compF (ns.take k)
theorem Zg6 {c:List (Nat × Nat)} {k:Nat} (d:k<c.length):B4_ c (k+1)=Q8_ (B4_ c k) (c.getD k (0,0)):=by
 unfold B4_;rw [List.take_succ_eq_append_getElem d,Zy2];simp [List.getD,d]
theorem Xv4 {m:Nat} {c:List (Nat × Nat)} (h:Lies m c) {k:Nat} (d:k<c.length):(c.getD k (0,0)).1<m∧(c.getD k (0,0)).2<m:=by
 have:=h c[k] (List.getElem_mem d);simpa [List.getD,d] using this
theorem Yl3 (m:Nat) (v:Value) (d:List (Nat × Nat)) (w:World) (Y:Edges w w.heap.size v (castE d)) (h1:1≤m) (S:m≤64) (h3:d.length≤4096) (H:Lies m d) :
  Calls Tryz.prog 180 #[.int .i64 m,v] w (Yy7 w m (compF d)):=by
 have Hr:=hid Y;have Hg:=hid (Vg5 h1 S h3 H);have x6:=hid H;have hl:(castE d).length≤1048576:=by rw [L4_];omega
 obtain ⟨A,c,Z,_,I⟩:=Y;rw [L4_] at Z I;subst Z;have N:=hid I;clear I H;have x9:(m:Int)≤64:=k30_;have x8:1≤(m:Int):=k30_;have xa:(d.length:Int)≤4096:=k30_;have x7:=fun W=>run_make_row' 26 3 (.int .i64 0) 8 Tryz.underlying26 info3 rfl .i64 .i64 m k30_ k30_ W
 go_enter Tryz.func180,Tryz.ntmps180
 go_wp2_with fail
 refine (Yl0 m _ (castE d) w Hr.out hl Hg.out).mono ?_;rintro e D ⟨rfl,B⟩;obtain ⟨g,C⟩:∃ g,g=D.heap.size:=⟨_,rfl⟩;have E:Hid (w.heap.size≤g):=by
  show _≤_;rw [C];exact B.size
 have x4:Hid (Labels (D.alloc (.cells (madeCells #[.int .i64 0] m) 3)) g m (fun j=>if j<0 then j else 0)):=by
  show Labels _ _ _ _;rw [C];exact World.rowIs.congr (World.rowIs_made D (.int .i64 0) m 3) fun i _=>by simp
 have x1:Hid (Below w.heap.size w (D.alloc (.cells (madeCells #[.int .i64 0] m) 3))):=B.alloc B.size _;clear B;go_wp2;rw [← C];clear C x7
 go_loopw [18] (fun q wr=>∃ k:Nat,q=.int .i64 k∧k≤m∧Labels wr g m (fun j=>if j<k then j else 0)∧Below w.heap.size w wr) (fun q _=>m - (intOf q).toNat)
 case atStart=>exact ⟨0,rfl,Nat.zero_le _,x4.out,x1.out⟩
 case round =>
  obtain ⟨k,rfl,U,u,s⟩:=hrel;have o:=hid u;have h:=hid s;clear u s;by_cases r:k<m
  ·have hc:wr.cell? ⟨g,k,none⟩=some (.int .i64 0):=by
    have:=o.out.cell r;simpa using this
   have xb:wr.frozen? ⟨g,k,none⟩=false:=o.out.frozen k;go_wp2
   go_roundw
   case rel =>
    refine ⟨k+1,z32_,k30_,(o.out.set k k).congr fun i hi=>?_,h.out.setCell E.out _⟩;by_cases J:i=k
    ·simp [J]
    ·by_cases X:i<k
     ·simp [J,X,show i<k+1 by omega]
     ·simp [J,X,show ¬ i<k+1 by omega]
   case measure=>simp [intOf];omega
  ·have K:k=m:=by omega
   have O:=hid (o.out.congr (f':=B4_ d 0) (fun i hi=>by simp [B4_,compF,show i<k by omega]));clear o;go_wp2
   go_loopw [28] (fun q wr=>∃ k:Nat,q=.int .i64 k∧k≤d.length∧Labels wr g m (B4_ d k)∧Below w.heap.size w wr) (fun q _=>d.length - (intOf q).toNat)
   case atStart=>exact ⟨0,rfl,Nat.zero_le _,O.out,h.out⟩
   case round =>
    clear O h K r U;obtain ⟨k,rfl,U,u,s⟩:=hrel;have o:=hid u;have h:=hid s;clear u s;by_cases r:k<d.length
    ·obtain ⟨z,hA,hab,q1,q2⟩:=N.out k r
     subst hA;rw [Yl2] at q1 q2;simp only at q1 q2;have Q:=(h.out.cell (p:=z.add (k * 2)) y32_).trans q1;have R:=(h.out.cell (p:=⟨(z.add (k * 2)).block,(z.add (k * 2)).off+1,none⟩) (by show (z.add (k * 2)).block<_;rw [Z2_];exact hab)).trans q2;clear q1 q2 N;have L:=Xv4 x6.out r;have P:=hid (Zg6 r);obtain ⟨⟨x,y⟩,x0⟩:∃ e,e=d.getD k (0,0):=⟨_,rfl⟩;rw [← x0] at Q R L P;clear x0;simp only at Q R L;obtain ⟨hx,hy⟩:=L;have xc:(x:Int)<m:=k30_;have xd:(y:Int)<m:=k30_;have G:=Blk.new wr 103 #[.int .i64 (x:Int),.int .i64 (y:Int)];have d0:=G.cell 0;have d1:=G.cell 1;simp only [List.getElem?_toArray,List.getElem?_cons_zero,List.getElem?_cons_succ] at d0 d1;have F:=hid (World.rowIs.alloc o.out (.cells #[.int .i64 (x:Int),.int .i64 (y:Int)] 103));have c1:=F.out.cell hx;have c2:=F.out.cell hy;have M:=hid (h.out.alloc h.out.size (.cells #[.int .i64 (x:Int),.int .i64 (y:Int)] 103));clear G;go_wp2;generalize wr.alloc (.cells #[.int .i64 (x:Int),.int .i64 (y:Int)] 103)=W at *
     generalize wr.heap.size=eb at *
     go_still_tail 11,q31_
     change wpList _ _ _ _ _ W.drew
     go_wp2_with fail
     refine (Xv3 g m (B4_ d k) (B4_ d k x) (B4_ d k y) W.drew F.out S).mono ?_;rintro e w3 ⟨rfl,V,T⟩;have x5:=hid V;have x3:=hid T;clear V T;go_wp2
     go_roundw
     case rel =>
      refine ⟨k+1,z32_,k30_,by rw [P.out];exact x5.out,M.out.trans ?_⟩;exact ((Below.refl w.heap.size W).drew).grown x3.out M.out.size (fun i hi=>by injection hi with hi;rw [← hi];exact E.out)
     case measure=>simp [intOf];omega
    ·have K:k=d.length:=by omega
     have x2:=hid (o.out.congr (f':=compF d) (fun i _=>by unfold B4_;rw [K,List.take_length]));go_wp2
     go_ret2
     exact ⟨g,rfl,x2.out,E.out,h.out⟩
open Go.RowKit Go.Maps
def castL (l:List Nat):List Int:=l.map fun v:Nat=>(v:Int)
def castP (pp:List (List Nat)):List (List Int):=pp.map castL
theorem F5_ (c:List (List Nat)):(castP c).length=c.length:=by simp [castP]
theorem Xm5 {c:List (List Nat)} {i:Nat} {p:List Nat} (h:c[i]?=some p):(castP c)[i]?=some (castL p):=by simp [castP,h]
theorem Xv5 (c:List (List Nat)) (i:Nat) (p:List Nat):castP (c.set i p)=(castP c).set i (castL p):=by simp [castP,List.map_set]
theorem Zp1 (l:List Nat):(castL l).length=l.length:=by simp [castL]
theorem Yl4 (l:List Nat) (k:Nat):castL (l ++ [k])=castL l ++ [(k:Int)]:=by simp [castL]
def U4_ (D:DataW Unit) (f:Nat→Nat) (k:Nat):Prop:=∀ r,r<k→f r=r→D.atKey (.int .i64 (r:Int)) (.lit (.int .i64 0))=.lit (.int .i64 (cnt (rootB f) r:Int))
theorem law3:Keyed Tryz.prog 3 := int_keyed Tryz.underlying3
theorem zero3 (w:World):(zeroValue 3).run Tryz.prog w=.ok (.int .i64 0) w:=q31_
theorem Vg6:(Tryz.prog.info? 26).map (fun i=>(i.zero,i.size,i.bytes))=some (some (.slice none 0 0),1,24):=q31_
theorem Yy8 {D:DataW Unit} {f:Nat→Nat} {k:Nat} (h:U4_ D f k) (d:f k≠k):U4_ D f (k+1):=by
 intro r g c;by_cases e:r=k
 ·subst e;exact absurd c d
 ·exact h r k30_ c
theorem isMap_of {w:World} {b n:Nat} {D:DataW Unit} (h:w.ownsMap Tryz.prog 3 (plainElem Tryz.prog 3) b n D):IsMap D:=by
 obtain ⟨_,_,_,_,_,c⟩:=h;exact ⟨_,c⟩
theorem Yl5 {D:DataW Unit} {f:Nat→Nat} {k:Nat} (h:U4_ D f k) (c:IsMap D):U4_ (D.put (.int .i64 (k:Int)) (.lit (.int .i64 (cnt (rootB f) k:Int)))) f (k+1):=by
 intro r j d;by_cases g:r=k
 ·subst g
  exact atKey_put_same c (show WideAt.IsKeyLit (.int .i64 (r:Int)) from trivial) _ _
 ·rw [atKey_put_other (by intro e;injection e;omega)]
  exact h r k30_ d
def Xv6 (w:World) (pp:List (List Int)) (e:Ending) (w':World):Prop :=
 ∃ v,e=.returned (.tuple #[v,.int .i64 0])∧Rows2 w' w'.heap.size v pp∧Below w.heap.size w w'
theorem Yl6 (m:Nat) (v:Value) (I:List (Nat × Nat)) (w:World) (K:Edges w w.heap.size v (castE I)) (h1:1≤m) (h2:m≤64) (h3:I.length≤4096) (h4:Lies m I) :
  Calls Tryz.prog 171 #[.int .i64 m,v] w (Xv6 w (castP (A7_ m (compF I)))):=by
 have Hr:=hid K;have Hc:=hid (Yl3 m v I w K h1 h2 h3 h4);have za:(m:Int)≤64:=k30_;have z9:1≤(m:Int):=k30_;have R:=hid (Xu7 I);have Q:=hid (Yo9 I);obtain ⟨A,c,rfl,_⟩:=K;clear h4 h3;have z3:=@run_makeMap Tryz.prog
 go_enter Tryz.func171,Tryz.ntmps171
 go_wp2_with fail
 refine Hc.out.mono ?_;rintro e z ⟨g,rfl,y5,hg,xi⟩;generalize compF I=f at *
 have xt:=hid y5;clear Hc y5 Hr;have y3:g<z.heap.size:=World.rowIs.lt xt.out;obtain ⟨d,G⟩:∃ d,d=z.heap.size:=⟨_,rfl⟩;have xu:Hid ((z.alloc (.map #[] 0)).ownsMap Tryz.prog 3 (plainElem (H:=Unit) Tryz.prog 3) d 0 (.map [])):=by
  show World.ownsMap _ _ _ _ _ _ _;rw [G];exact World.ownsMap_made z Tryz.prog 3 _
 have xo:Hid (Below d z (z.alloc (.map #[] 0))):=by
  show Below _ _ _;rw [G];exact (Below.refl _ z).alloc (Nat.le_refl _) _
 have xx:Hid (d+1≤(z.alloc (.map #[] 0)).heap.size):=by
  show _≤_;rw [G];simp
 have yp:Hid (w.heap.size≤d):=by
  show _≤_;rw [G];exact xi.size
 have yy:g<d:=by rw [G];exact y3
 have yi:=hid xi;clear xi y3;go_wp2;rw [← G];have z8:=hid G;clear G z3
 go_loopw [8,25] (fun vp vk wr=>∃ (k:Nat) (vs:List Value) (D:DataW Unit),vk=.int .i64 k∧k≤m∧wr.ownsRow (d+1) 26 1 vp vs.length vs∧Fam wr (d+1) vs (castP (A7_ k f)) ∧
   wr.ownsMap Tryz.prog 3 (plainElem Tryz.prog 3) d k D∧U4_ D f k∧Below d z wr∧d+1≤wr.heap.size) (fun _ vk _=>m - (intOf vk).toNat)
 case atStart=>exact ⟨0,[],.map [],rfl,Nat.zero_le _,World.ownsRow_nil _ _ _ _,Vv6 _ _,xu.out,fun r K=>absurd K k30_,xo.out,xx.out⟩
 case round =>
  obtain ⟨k,vs,D,rfl,hk,xm,y2,y7,x6,y0,yd⟩:=hrel;clear xu xo xx;obtain ⟨vA,vc,rfl⟩:=L3_ xm;have x3:=hid xm;have x1:=hid y2;have xc:=hid y7;have xw:=hid x6;have Z:=hid y0;clear xm y2 y7 x6 y0;by_cases z2:k<m
  ·have hc:wr.cell? ⟨g,k,none⟩=some (.int .i64 (f k:Int)):=(Z.out.cell (p:=⟨g,k,none⟩) (yy)).trans (xt.out.cell z2)
   have xh:Hid (vs.length=cnt (rootB f) k):=by
    show _=_;rw [x1.out.1,F5_,Q5_]
   have ze:vs.length≤64:=by
    rw [xh.out];have:=F0_ (rootB f) k;omega
   have zf:(vs.length:Int)≤64:=k30_;obtain ⟨x,Y⟩:∃ x,x=f k:=⟨_,rfl⟩;rw [← Y] at hc;have zh:x≤k:=by rw [Y];exact R.out k
   have yl:Hid (f x=x):=by
    show f x=x;rw [Y];exact Q.out k
   have xz:=hid (WalkArith.wf_i64 (n:=(x:Int)) k30_);have yu:=hid (WalkArith.wf_i64 (n:=(vs.length:Int)) k30_);have N:=hid Y;clear Y;by_cases V:x=k
   case' pos =>
    have S:=hid V;have z1:((k:Int)==(x:Int))=true:=by simp [V]
    clear V
    go_wp2_with (at_mapUpdate;refine wpList_mapUpdate_own _ rfl _ _ _ 197 rfl 3 3 law3 Tryz.underlying197 _ d k _ rfl xc.out j32_ _ _ _ rfl rfl (keyOf_int_mk Tryz.underlying3 xz.out) _ [] (plainElem_int Tryz.underlying3 yu.out) ?_)
    intro w2 y8 y4;have xv:=hid y8;have P:=hid y4;clear y8 y4;have z5:d+1≤w2.heap.size:=Nat.le_trans yd P.out.size;have yh:∀ q,(Value.slice vA vs.length vc).ownBlock=some q→d+1≤q:=fun q hq=>(x3.out.lt q hq).1;have x4:=hid yh;clear yh;have xe:=hid (x3.out.kept P.out (by
     rcases hb:(Value.slice vA vs.length vc).ownBlock with _ | q
     ·exact .inl rfl
     ·right
      intro C;injection C with C;have:=x4.out q hb;omega))
    have x2:=hid (x1.out.apart P.out k30_);have xp:=hid (Z.out.grown P.out k30_ (fun i hi=>by injection hi with hi;omega));have J:=(Blk.new w2 26 #[.slice none 0 0]).cell 0;simp only [List.getElem?_toArray,List.getElem?_cons_zero] at J;have x0:=hid J;clear J
    go_wp2_with (at_builtin;refine J2_ rfl _ _ 22 26 (.slice none 0 0) 24 rfl Tryz.underlying22 Vg6 rfl (d+1) _ (.slice none 0 0) vs rfl (xe.out.alloc _) w2.heap.size rfl x0.out rfl k30_ k30_ j31_ ?_)
    intro z7 o ya U _;obtain ⟨s,hD⟩:∃ s,s=D.put (.int .i64 (x:Int)) (.lit (.int .i64 (vs.length:Int))):=⟨_,rfl⟩;have xf:Hid (U4_ s f (k+1)):=by
     show U4_ _ _ _;rw [hD,S.out,xh.out];exact Yl5 xw.out (isMap_of xc.out)
    have xd:Hid (o.ownsMap Tryz.prog 3 (plainElem Tryz.prog 3) d (k+1) s):=by
     show World.ownsMap _ _ _ _ _ _ _;rw [hD];refine (xv.out.alloc _).kept U ?_;intro C;have:=x4.out d C.symm;omega
    have xq:=hid ((xp.out.alloc k30_ (.cells #[.slice none 0 0] 26)).grown U j31_ (fun i hi=>by have:=x4.out i hi;omega));have z6:d+1≤o.heap.size:=Nat.le_trans j31_ U.size;obtain ⟨h,x7⟩:∃ h,h=vs ++ [.slice none 0 0]:=⟨_,rfl⟩;have M:Hid (o.ownsRow (d+1) 26 1 z7 h.length h):=by
     show World.ownsRow _ _ _ _ _ _ _;rw [x7,List.length_append];exact ya
    have O:Hid (Fam o (d+1) h (castP (X5_ k f))):=by
     show Fam _ _ _ _;have K:castP (X5_ k f)=castP (A7_ k f) ++ [[]]:=by
      unfold X5_;rw [← N.out,if_pos S.out];simp [castP,castL]
     rw [x7,K];refine Fam.more ?_;refine (x2.out.new (World.grownBy_alloc _ (.cells #[.slice none 0 0] 26) none)).kept U ?_;intro v W;obtain ⟨i,hi,rfl⟩:=List.mem_iff_getElem.1 W;have xl:i<(castP (A7_ k f)).length:=by rw [← x2.out.1];exact hi
     exact Yb2 (x2.out.2.1 i _ _ (List.getElem?_eq_getElem hi) (List.getElem?_eq_getElem xl)) xe.out z31_
    have X:0<h.length:=by rw [x7,List.length_append];simp
    obtain ⟨go,T,rfl,yz⟩:=P5_ M.out X;clear hD x7 X ya U x0 xp x2 xe x4 xv P z5
   case' neg =>
    have S:=hid V;have z1:((k:Int)==(x:Int))=false:=by rw [beq_eq_false_iff_ne];omega
    clear V;obtain ⟨o,rfl⟩:∃ o,o=wr:=⟨_,rfl⟩;obtain ⟨h,rfl⟩:∃ h,h=vs:=⟨_,rfl⟩;obtain ⟨s,rfl⟩:∃ s,s=D:=⟨_,rfl⟩;have xf:Hid (U4_ s f (k+1)):=Yy8 xw.out (by rw [← N.out];exact S.out);have xd:=hid (xc.out.mono (Nat.le_succ k));have xq:=Z;have z6:=yd;have M:=x3;have O:Hid (Fam o (d+1) h (castP (X5_ k f))):=by
     show Fam _ _ _ _;unfold X5_;rw [← N.out,if_neg S.out];exact x1.out
    have X:0<h.length:=by
     rw [O.out.1,F5_];exact Nat.lt_of_le_of_lt (Nat.zero_le _) (Zt8 (k:=k) R.out Q.out)
    obtain ⟨go,T,W,yz⟩:=P5_ M.out X;injection W with hv1 _ hv2;subst hv1;obtain rfl:T=vc:=hv2.symm;clear X
   all_goals
    go_wp2_with (at_lookup;refine wpList_lookup_own_int _ rfl _ _ 197 rfl 3 3 .i64 law3 Tryz.underlying197 Tryz.underlying3 (zero3 _) d (k+1) s rfl xd.out _ _ rfl (keyOf_int_mk Tryz.underlying3 xz.out) ?_)
    intro c y _;rw [xf.out x k30_ yl.out] at y;obtain rfl:c=(cnt (rootB f) x:Int):=by injection y with y;injection y with _ y;exact y.symm
    clear y;have yb:cnt (rootB f) x<(X5_ k f).length:=by rw [N.out];exact Zt8 R.out Q.out
    have y:(X5_ k f)[cnt (rootB f) x]?=some (Q0_ k f x):=by rw [N.out];exact Xu8 R.out Q.out
    have yq:Hid (castP (A7_ (k+1) f)=(castP (X5_ k f)).set (cnt (rootB f) x) (castL (Q0_ k f x) ++ [(k:Int)])):=by
     show _=_;rw [Ye8 R.out Q.out,Xv5,Yl4,← N.out]
    generalize cnt (rootB f) x=q at *
    have xn:h.length=(X5_ k f).length:=by rw [O.out.1,F5_]
    have z4:q<h.length:=by rw [xn];exact yb
    have zg:h.length≤65:=by
     rw [xn,Zy5];have:=F0_ (rootB f) (k+1);omega
    have hu:h[q]?=some h[q]:=List.getElem?_eq_getElem z4;have x5:=O.out.2.1 q _ _ hu (Xm5 y);have y1:=M.out.cells (g:=go) rfl q _ hu;have yx:o.cell? ⟨go,q,none⟩=some h[q]:=by
     rw [← y1];unfold Addr.add;split<;>simp_all
    clear y1;have x6:(castL (Q0_ k f x)).length≤64:=by
     rw [Zp1];have:=Ze4 k f x;omega
    generalize h[q]=u at *
    have zd:(q:Int)<(h.length:Int):=k30_;obtain ⟨j,x9⟩:∃ j,j=ints (castL (Q0_ k f x)):=⟨_,rfl⟩;have x8:j.length=(castL (Q0_ k f x)).length:=by rw [x9,Z7_]
    rw [← x9,← x8] at x5;rw [← x8] at x6;obtain ⟨uA,uc,rfl⟩:=L3_ x5;have xb:=hid x5;have Hu:=hid hu;have yw:=hid x9;have yv:=hid x8;clear x5 hu y yb xn xh x9 x8;have J:=(Blk.new o 3 #[.int .i64 (k:Int)]).cell 0;simp only [List.getElem?_toArray,List.getElem?_cons_zero] at J;have x0:=hid J;clear J;have yf:(o.alloc (.cells #[.int .i64 (k:Int)] 3)).heap.size=o.heap.size+1:=y31_;have xg:=hid yf;have yg:∀ i,(Value.slice uA j.length uc).ownBlock=some i→d+1≤i:=fun i hi=>(xb.out.lt i hi).1;have xy:=hid yg;clear yf yg
    go_wp2_with (at_builtin;refine J2_ rfl _ _ 26 3 (.int .i64 0) 8 rfl Tryz.underlying26 info3 rfl (d+1) _ (.int .i64 (k:Int)) j rfl (xb.out.alloc _) o.heap.size rfl x0.out rfl k30_ k30_ (by rw [xg.out];omega) ?_)
    intro u5 B xk xj y6;have xa:=hid ((World.grownBy_alloc o (.cells #[.int .i64 (k:Int)] 3) (Value.slice uA j.length uc).ownBlock).trans xj);have y9:(Value.slice (some ⟨go,0,none⟩) h.length T).ownBlock=none∨(Value.slice (some ⟨go,0,none⟩) h.length T).ownBlock≠(Value.slice uA j.length uc).ownBlock:=Yb2 M.out xb.out z31_;have L:=hid (M.out.kept xa.out y9);have zb:B.cell? ⟨go,q,none⟩=some (.slice uA j.length uc):=by rw [L.out.cellAt q k30_];exact Hu.out
    have zc:B.frozen? ⟨go,q,none⟩=false:=L.out.frozenAt q;have ym:=hid xk;have xr:=hid xj;have yn:=hid y6;obtain ⟨E,F,rfl⟩:=L3_ xk;clear xk xj y6 y9 yx;have ye:(o.alloc (.cells #[.int .i64 (k:Int)] 3)).heap.size≤B.heap.size:=xr.out.size;have yk:Hid (Fam (B.setCell ⟨go,q,none⟩ (.slice E (j.length+1) F)) (d+1) (h.set q (.slice E (j.length+1) F)) (castP (A7_ (k+1) f))):=by
     show Fam _ _ _ _;rw [yq.out];have hq:ints (castL (Q0_ k f x) ++ [(k:Int)])=j ++ [.int .i64 (k:Int)]:=by rw [X3_,yw.out];rfl
     have h5:Fam B (d+1) (h.set q (.slice E (j.length+1) F)) ((castP (X5_ k f)).set q (castL (Q0_ k f x) ++ [(k:Int)])):=by
      refine (O.out.new (World.grownBy_alloc _ (.cells #[.int .i64 (k:Int)] 3) none)).grow Hu.out xr.out ?_ (by rw [xg.out];exact yn.out);rw [hq,List.length_append,← yv.out];exact ym.out
     refine h5.kept (row:=some go) (L.out.stored q _).2 ?_;intro v W;obtain ⟨i,hi,rfl⟩:=List.mem_iff_getElem.1 W;have xl:i<((castP (X5_ k f)).set q (castL (Q0_ k f x) ++ [(k:Int)])).length:=by rw [← h5.1];exact hi
     exact Yb2 (h5.2.1 i _ _ (List.getElem?_eq_getElem hi) (List.getElem?_eq_getElem xl)) L.out z31_
    have yr:Hid ((B.setCell ⟨go,q,none⟩ (.slice E (j.length+1) F)).ownsRow (d+1) 26 1 (.slice (some ⟨go,0,none⟩) h.length T) (h.set q (.slice E (j.length+1) F)).length (h.set q (.slice E (j.length+1) F))):=by
     show World.ownsRow _ _ _ _ _ _ _;rw [List.length_set];exact (L.out.stored q _).1
    have yo:Hid ((B.setCell ⟨go,q,none⟩ (.slice E (j.length+1) F)).ownsMap Tryz.prog 3 (plainElem Tryz.prog 3) d (k+1) s):=by
     refine (xd.out.kept xa.out ?_).kept (row:=some go) (L.out.stored q _).2 ?_
     ·intro C
      have:=xy.out d C.symm;omega
     ·intro C
      injection C with C;omega
    have yj:Hid (Below d z (B.setCell ⟨go,q,none⟩ (.slice E (j.length+1) F))):=by
     refine (xq.out.grown xa.out k30_ (fun i hi=>by have:=xy.out i hi;omega)).setCell ?_ _;show d≤go;omega
    have yc:d+1≤(B.setCell ⟨go,q,none⟩ (.slice E (j.length+1) F)).heap.size:=by
     have:o.heap.size+1≤B.heap.size:=by rw [← xg.out];exact ye
     simp [World.setCell];omega
    have yt:=hid yc;clear yc ye;go_wp2
    go_roundw
    case rel=>exact ⟨k+1,_,s,z32_,k30_,yr.out,yk.out,yo.out,xf.out,yj.out,yt.out⟩
    case measure=>simp [intOf];omega
  ·have z0:k=m:=by omega
   have ys:=hid (x1.out.rows x3.out);subst z0;go_wp2
   go_ret2
   refine ⟨_,rfl,ys.out,yi.out.trans (Z.out.mono yp.out)⟩
open Go.RowKit
def Vg7 (w:World) (x:Int) (e:Ending) (w':World):Prop:=e=.returned (.int .i64 x)∧Below w.heap.size w w'
def rankN (m:Nat) (ns:List (Nat × Nat)):Int:=(m:Int) - (D9_ m ns:Int)
theorem Xv7 (m:Nat) (v:Value) (d:List (Nat × Nat)) (w:World) (h:Edges w w.heap.size v (castE d)) (p:1≤m) (q:m≤64) (h3:d.length≤4096) (g:Lies m d) :
  Calls Tryz.prog 154 #[.int .i64 m,v] w (Vg7 w (rankN m d)):=by
 have o:=hid (Yl6 m v d w h p q h3 g);have y:(m:Int)≤64:=k30_;have x:1≤(m:Int):=k30_;obtain ⟨A,c,rfl,_⟩:=h;clear g h3
 go_enter Tryz.func154,Tryz.ntmps154
 go_wp2_with fail
 refine o.out.mono ?_;rintro e D ⟨C,rfl,s,r⟩;obtain ⟨u,c1,rfl,_⟩:=s;rw [F5_,Q5_];have z:=F0_ (rootB (compF d)) m;have j:Hid ((m:Int) - (cnt (rootB (compF d)) m:Int)=rankN m d):=rfl;generalize cnt (rootB (compF d)) m=k at *
 have B:(k:Int)≤m:=k30_;go_wp2;go_ret;exact ⟨by rw [← j.out];rfl,r⟩
open Go.RowKit
open Go.RowKit
open Go.RowKit
open Go.RowKit
open Go.RowKit
theorem P7_ {w w':World} {base:Nat} {e:TypeId} {c:Nat} {v:Value} {n:Nat} {d:List Value} (h:w.ownsRow base e c v n d) (hb:Below w.heap.size w w'):w'.ownsRow base e c v n d :=
 h.kept (Y5_ hb none) (by
  rcases v.ownBlock with _ | q
  ·exact .inl rfl
  ·exact .inr y31_)
end Wp
end Go.Proofs.YtgpljiijjnaofaaGreatDoor
