/- Graphs in memory, and the program's components, walked. The program's parts and rank of a graph, walked. -/
import Derived.Test.YtgpljiijjnaofaaGreatDoorZP
import Derived.Test.YtgpljiijjnaofaaGreatDoorGPlaces
import Derived.Deep.Slices
import Derived.Deep.OwnRows
import Derived.LoopN
import Derived.StillTailTactics
import Derived.Maps.OwnOps
import Derived.Maps.Views
import Derived.Laws.AppendOwnNone
import Derived.Maps.AppendAt
import Derived.Test.YtgpljiijjnaofaaGreatDoorX0A
import Derived.Test.YtgpljiijjnaofaaGreatDoorX0C
set_option maxHeartbeats 8000000
set_option maxRecDepth 100000
open Go.Lib (hid)
namespace Go.Proofs.YtgpljiijjnaofaaGreatDoor
open Go.RowKit
namespace Wp
def Edges (w:World) (B:Nat) (v:Value) (es:List (Int × Int)):Prop :=
 ∃ A c,v=.slice A es.length c∧(es.length≤c∧c≤maxLen∧(A=none→c=0)) ∧
  ∀ k,k<es.length→∃ ad:Addr,A=some ad∧ad.block<B∧w.cell? (ad.add (k * 2))=some (.int .i64 (es.getD k (0,0)).1)∧w.cell? ⟨(ad.add (k * 2)).block,(ad.add (k * 2)).off+1,none⟩=some (.int .i64 (es.getD k (0,0)).2)
open Go.RowKit
def okE (n:Int) (e:Int × Int):Bool:=decide (0≤e.1∧e.1<n∧0≤e.2∧e.2<n)
def sizeB (n:Int) (es:List (Int × Int)):Bool:=decide (1≤n∧n≤64∧es.length≤4096)
def isG (n:Int) (es:List (Int × Int)):Bool:=sizeB n es && es.all (okE n)
theorem Vg8 {n:Int} {es:List (Int × Int)} (h:¬ (1≤n∧n≤64∧es.length≤4096)):isG n es=false:=by
 unfold isG sizeB;rw [decide_eq_false h];rfl
theorem Zp5 {es:List (Int × Int)} {k:Nat} (c:k<es.length):es.getD k (0,0)=es[k]:=by simp [List.getD,c]
theorem isG_bad {n:Int} {es:List (Int × Int)} {k:Nat} (c:k<es.length) (h:okE n (es.getD k (0,0))=false):isG n es=false:=by
 unfold isG;rw [Bool.and_eq_false_iff];right;rw [← Bool.not_eq_true,List.all_eq_true];intro d;have:=d _ (List.getElem_mem c);rw [Zp5 c,this] at h;cases h
def Yc3 (n:Int) (es:List (Int × Int)) (k:Nat):Prop:=∀ j,j<k→okE n (es.getD j (0,0))=true
theorem Yy7 {n:Int} {es:List (Int × Int)} {k:Nat} (h:Yc3 n es k) (d:okE n (es.getD k (0,0))=true):Yc3 n es (k+1):=by
 intro j e;by_cases c:j=k
 ·rw [c];exact d
 ·exact h j j31_
theorem isG_end {n:Int} {es:List (Int × Int)} (c:1≤n∧n≤64∧es.length≤4096) {k:Nat} (g:k=es.length) (h:Yc3 n es k):isG n es=true:=by
 unfold isG sizeB;rw [decide_eq_true c,Bool.true_and,List.all_eq_true];intro e d;obtain ⟨j,f,rfl⟩:=List.mem_iff_getElem.1 d;have:=h j j31_
 rwa [Zp5 f] at this
theorem idx0 (x y:Int) (w:World):(Instr.index 103 (.agg #[.int .i64 x,.int .i64 y]) (.int .i64 0)).run Tryz.prog w=.ok (.int .i64 x) w:=k31_
theorem idx1 (x y:Int) (w:World):(Instr.index 103 (.agg #[.int .i64 x,.int .i64 y]) (.int .i64 1)).run Tryz.prog w=.ok (.int .i64 y) w:=k31_
theorem Yl5 (n:Int) (v:Value) (es:List (Int × Int)) (w:World) (Q:Edges w w.heap.size v es) (O:1≤n) (P:n≤64) (N:es.length≤4096) :
  Calls Tryz.prog 190 #[.int .i64 n,v] w (Says w (isG n es)):=by
 obtain ⟨A,c,rfl,_,C⟩:=Q;have s:=hid C;clear C;have r:=hid (fun k=>@isG_bad n es k);have J:=hid (fun k=>@isG_end n es ⟨O,P,N⟩ k);have X:=idx0;have Y:=idx1;have W:(es.length:Int)≤4096:=j31_
 go_enter Tryz.func190,Tryz.ntmps190
 go_wp2
 go_loopw [22] (fun q wr=>∃ k:Nat,q=.int .i64 k∧k≤es.length∧Below w.heap.size w wr∧Yc3 n es k) (fun q _=>es.length - (intOf q).toNat)
 case atStart=>exact ⟨0,rfl,Nat.zero_le _,Below.refl _ _,fun j M=>absurd M j31_⟩
 case round =>
  obtain ⟨k,rfl,V,G,F⟩:=hrel;have Hwr:=hid G;clear G;have u:=hid F;clear F;by_cases E:k<es.length
  ·obtain ⟨d,hA,hab,z,B⟩:=s.out k E
   subst hA;have T:wr.cell? (d.add (k * 2))=some (.int .i64 (es.getD k (0,0)).1):=((Hwr.out).cell x33_).trans z;have U:wr.cell? ⟨(d.add (k * 2)).block,(d.add (k * 2)).off+1,none⟩=some (.int .i64 (es.getD k (0,0)).2):=((Hwr.out).cell (by show (d.add (k * 2)).block<_;rw [Z2_];exact hab)).trans B;have Hno:=hid (r.out k E);have L:=hid (Yy7 (n:=n) (es:=es) (k:=k) u.out);clear z B r s;have e:Hid (okE n (es.getD k (0,0))=decide (0≤(es.getD k (0,0)).1∧(es.getD k (0,0)).1<n∧0≤(es.getD k (0,0)).2∧(es.getD k (0,0)).2<n)):=rfl;generalize (es.getD k (0,0)).1=x at *
   generalize (es.getD k (0,0)).2=y at *
   by_cases h:0≤x∧x<n
   ·obtain ⟨R,H⟩:=h
    by_cases o:0≤y∧y<n
    ·obtain ⟨S,I⟩:=o
     have Hx:Hid (okE n (es.getD k (0,0))=true):=by
      show okE n (es.getD k (0,0))=true;rw [e.out];simp [R,H,S,I]
     go_wp2;refine wp_loop_rounds 3 ?_;rw [rounds_succ];go_wp2;rw [rounds_succ];go_wp2;rw [rounds_succ];go_wp2
     go_roundw
     case rel=>exact ⟨k+1,y33_,j31_,(Hwr.out).alloc (Hwr.out).size _,L.out Hx.out⟩
     case measure=>simp [intOf];omega
    ·have Hx:Hid (okE n (es.getD k (0,0))=false):=by
      show okE n (es.getD k (0,0))=false;rw [e.out,decide_eq_false_iff_not];rintro ⟨_,_,h3,g⟩;exact o ⟨h3,g⟩
     have p:y<0∨n≤y:=j31_;clear o;rcases p with p | p
     ·exact q29_
     ·have I:0≤y:=by omega
      exact q29_
   ·have Hx:Hid (okE n (es.getD k (0,0))=false):=by
     show okE n (es.getD k (0,0))=false;rw [e.out,decide_eq_false_iff_not];rintro ⟨h3,g,_⟩;exact h ⟨h3,g⟩
    have m:x<0∨n≤x:=j31_;clear h;rcases m with m | m
    ·go_wp2
     refine wp_loop_rounds 3 ?_;exact k5_
    ·have H:0≤x:=by omega
     go_wp2;refine wp_loop_rounds 3 ?_;exact k5_
  ·have D:k=es.length:=by omega
   have K:=hid (J.out k D u.out);subst D;go_wp2;go_ret;exact V4_ K.out rfl Hwr.out
theorem Yy8 (n:Int) (v:Value) (es:List (Int × Int)) (w:World) (d:Edges w w.heap.size v es) (hl:es.length≤1048576) :
  Calls Tryz.prog 190 #[.int .i64 n,v] w (Says w (isG n es)):=by
 by_cases h:1≤n∧n≤64∧es.length≤4096
 ·exact Yl5 n v es w d h.1 h.2.1 h.2.2
 ·have Hno:=hid (Vg8 h)
  have g:=hid d;obtain ⟨A,c,rfl,_⟩:=d;have k:(es.length:Int)≤1048576:=j31_;have h3:n<1∨(1≤n∧64<n)∨(1≤n∧n≤64∧4096<(es.length:Int)):=j31_;clear h;rcases h3 with h3 | ⟨h3,e⟩ | ⟨h3,e,j⟩
  ·exact j6_
  ·exact j6_
  ·exact j6_
theorem Yl6 (n:Int) (v:Value) (es:List (Int × Int)) (w:World) (c:Edges w w.heap.size v es) (hl:es.length≤1048576) {b:Bool} (hb:isG n es=b) :
  Calls Tryz.prog 190 #[.int .i64 n,v] w (Says w b):=by
 subst hb;exact Yy8 n v es w c hl
open Go.RowKit
def Labels (w:World) (g n:Nat) (f:Nat→Nat):Prop:=w.rowIs g 3 n fun i=>.int .i64 (f i:Int)
theorem Labels.congr {w:World} {g n:Nat} {f f':Nat→Nat} (h:Labels w g n f) (e:∀ i,i<n→f i=f' i):Labels w g n f':=World.rowIs.congr h fun i hi=>by rw [e i hi]
theorem Labels.set {w:World} {g n:Nat} {f:Nat→Nat} (h:Labels w g n f) (i:Nat) (v:Nat):Labels (w.setCell ⟨g,i,none⟩ (.int .i64 (v:Int))) g n (fun j=>if j=i then v else f j) :=
 World.rowIs.congr (World.rowIs.set h i _) fun j _=>q15_
def Xt1 (w:World) (g n:Nat) (f:Nat→Nat) (e:Ending) (w':World):Prop:=e=.returned (.tuple #[])∧Labels w' g n f∧w.grownBy w' (some g)
theorem Yl7 {f f':Nat→Nat} {lo hi k:Nat} (h:f'=fun v=>if f v=hi then lo else f v) :
  (f k=hi→(fun j=>if j=k then lo else if j<k then f' j else f j)=fun j=>if j<k+1 then f' j else f j)∧(f k≠hi→(fun j=>if j<k then f' j else f j)=fun j=>if j<k+1 then f' j else f j):=by
 subst h;constructor
 ·intro e
  funext j
  by_cases c:j=k
  ·subst c;simp [e]
  ·by_cases d:j<k
   ·simp [c,d,show j<k+1 by omega]
   ·simp [c,d,show ¬ j<k+1 by omega]
 ·intro e
  funext j
  by_cases c:j=k
  ·subst c;simp [e]
  ·by_cases d:j<k
   ·simp [d,show j<k+1 by omega]
   ·simp [d,show ¬ j<k+1 by omega]
theorem Yc4 (g n:Nat) (f f':Nat→Nat) (a b lo hi:Nat) (s:f'=fun v=>if f v=hi then lo else f v) (I:lo<hi) (D:(lo=a∧hi=b)∨(hi=a∧lo=b)) (w:World) (r:Labels w g n f) (J:n≤64) :
  Calls Tryz.prog 191 #[.slice (some ⟨g,0,none⟩) n n,.int .i64 a,.int .i64 b] w (Xt1 w g n f'):=by
 have B:=hid r;clear r;have h:=hid (fun k=>Yl7 (k:=k) s);clear s;have K:(n:Int)≤64:=j31_;have L:((lo:Int)==(hi:Int))=false:=by rw [beq_eq_false_iff_ne];omega
 have M:((hi:Int)==(lo:Int))=false:=by rw [beq_eq_false_iff_ne];omega
 have N:¬ hi<lo:=j31_;rcases D with ⟨p,q⟩ | ⟨p,q⟩
 all_goals
  subst p;subst q
  go_enter Tryz.func191,Tryz.ntmps191
  go_wp2
  go_loopw [21] (fun e wr=>∃ k:Nat,e=.int .i64 k∧k≤n∧Labels wr g n (fun j=>if j<k then f' j else f j)∧w.grownBy wr (some g)) (fun e _=>n - (intOf e).toNat)
  case atStart=>exact ⟨0,rfl,Nat.zero_le _,B.out.congr (fun i _=>by simp),World.grownBy.refl _ _⟩
  case round =>
   obtain ⟨k,rfl,H,y,u⟩:=hrel;have c:=hid y;have d:=hid u;clear y u;by_cases F:k<n
   ·have hc:wr.cell? ⟨g,k,none⟩=some (.int .i64 (f k:Int)):=by
     have:=c.out.cell F;simpa using this
    have G:wr.frozen? ⟨g,k,none⟩=false:=c.out.frozen k;have m:=hid (h.out k).1;have o:=hid (h.out k).2;have C:=hid (fun v=>c.out.set k v);generalize f k=x at hc m o;by_cases z:x=hi
    ·subst z
     go_wp2
     go_roundw
     case rel =>
      refine ⟨k+1,y33_,j31_,?_,L4_ d.out (.inl rfl) _⟩;rw [← m.out rfl];exact C.out _
     case measure=>simp [intOf];omega
    ·have O:((x:Int)==(hi:Int))=false:=by rw [beq_eq_false_iff_ne];omega
     go_wp2
     go_roundw
     case rel=>exact ⟨k+1,y33_,j31_,by rw [← o.out z];exact c.out,d.out⟩
     case measure=>simp [intOf];omega
   ·have E:k=n:=by omega
    subst E;go_wp2
    go_end0
    exact ⟨rfl,c.out.congr (fun i hi=>by simp [hi]),d.out⟩
theorem Xj0 (g n:Nat) (f:Nat→Nat) (a b:Nat) (w:World) (d:Labels w g n f) (e:n≤64) :
  Calls Tryz.prog 191 #[.slice (some ⟨g,0,none⟩) n n,.int .i64 a,.int .i64 b] w (Xt1 w g n (N3_ f a b)):=by
 rcases Nat.lt_trichotomy a b with c | c | c
 ·refine Yc4 g n f _ a b a b ?_ c (.inl ⟨rfl,rfl⟩) w d e
  funext v
  unfold N3_;rw [Nat.max_eq_right j31_,Nat.min_eq_left j31_]
 ·subst c
  rw [Zb1];have h:=hid d;clear d;have j:(n:Int)≤64:=j31_
  go_enter Tryz.func191,Tryz.ntmps191
  go_wp2;refine bodyPost_ret (results_none rfl _ _ _) rfl ?_;exact ⟨rfl,h.out,World.grownBy.refl _ _⟩
 ·refine Yc4 g n f _ a b b a ?_ c (.inr ⟨rfl,rfl⟩) w d e
  funext v
  unfold N3_;rw [Nat.max_eq_left j31_,Nat.min_eq_right j31_]
open Go.RowKit
def castE (ns:List (Nat × Nat)):List (Int × Int):=ns.map fun e=>((e.1:Int),(e.2:Int))
theorem L6_ (c:List (Nat × Nat)):(castE c).length=c.length:=by simp [castE]
theorem Yl8 (c:List (Nat × Nat)) (k:Nat):(castE c).getD k (0,0)=(((c.getD k (0,0)).1:Int),((c.getD k (0,0)).2:Int)):=by
 unfold castE;rw [List.getD_eq_getElem?_getD,List.getD_eq_getElem?_getD,List.getElem?_map];rcases c[k]? with _ | e<;>rfl
theorem Vg9 {m:Nat} {c:List (Nat × Nat)} (h:1≤m) (j:m≤64) (h3:c.length≤4096) (d:Lies m c):isG m (castE c)=true:=by
 unfold isG sizeB;rw [Bool.and_eq_true,decide_eq_true_iff,List.all_eq_true];refine ⟨⟨j31_,j31_,by rw [L6_];exact h3⟩,fun e f=>?_⟩;obtain ⟨x,g,rfl⟩:=List.mem_map.1 f;have:=d x g;simp only [okE,decide_eq_true_iff];omega
def Yy9 (w:World) (m:Nat) (f:Nat→Nat) (e:Ending) (w':World):Prop :=
 ∃ g,e=.returned (.tuple #[.slice (some ⟨g,0,none⟩) m m,.int .i64 0])∧Labels w' g m f∧w.heap.size≤g∧Below w.heap.size w w'
def B9_ (ns:List (Nat × Nat)) (k:Nat):Nat→Nat:=compF (ns.take k)
theorem Zh5 {c:List (Nat × Nat)} {k:Nat} (d:k<c.length):B9_ c (k+1)=A3_ (B9_ c k) (c.getD k (0,0)):=by
 unfold B9_;rw [List.take_succ_eq_append_getElem d,Zx3];simp [List.getD,d]
theorem Xj1 {m:Nat} {c:List (Nat × Nat)} (h:Lies m c) {k:Nat} (d:k<c.length):(c.getD k (0,0)).1<m∧(c.getD k (0,0)).2<m:=by
 have:=h c[k] (List.getElem_mem d);simpa [List.getD,d] using this
theorem Yl9 (m:Nat) (v:Value) (d:List (Nat × Nat)) (w:World) (Y:Edges w w.heap.size v (castE d)) (h1:1≤m) (S:m≤64) (h3:d.length≤4096) (H:Lies m d) :
  Calls Tryz.prog 180 #[.int .i64 m,v] w (Yy9 w m (compF d)):=by
 have Hr:=hid Y;have Hg:=hid (Vg9 h1 S h3 H);have x6:=hid H;have hl:(castE d).length≤1048576:=by rw [L6_];omega
 obtain ⟨A,c,Z,_,I⟩:=Y;rw [L6_] at Z I;subst Z;have N:=hid I;clear I H;have x9:(m:Int)≤64:=j31_;have x8:1≤(m:Int):=j31_;have xa:(d.length:Int)≤4096:=j31_;have x7:=fun W=>run_make_row' 26 3 (.int .i64 0) 8 Tryz.underlying26 info3 rfl .i64 .i64 m j31_ j31_ W
 go_enter Tryz.func180,Tryz.ntmps180
 go_wp2_with fail
 refine (Yl6 m _ (castE d) w Hr.out hl Hg.out).mono ?_;rintro e D ⟨rfl,B⟩;obtain ⟨g,C⟩:∃ g,g=D.heap.size:=⟨_,rfl⟩;have E:Hid (w.heap.size≤g):=by
  show _≤_;rw [C];exact B.size
 have x4:Hid (Labels (D.alloc (.cells (madeCells #[.int .i64 0] m) 3)) g m (fun j=>if j<0 then j else 0)):=by
  show Labels _ _ _ _;rw [C];exact World.rowIs.congr (World.rowIs_made D (.int .i64 0) m 3) fun i _=>by simp
 have x1:Hid (Below w.heap.size w (D.alloc (.cells (madeCells #[.int .i64 0] m) 3))):=B.alloc B.size _;clear B;go_wp2;rw [← C];clear C x7
 go_loopw [18] (fun q wr=>∃ k:Nat,q=.int .i64 k∧k≤m∧Labels wr g m (fun j=>if j<k then j else 0)∧Below w.heap.size w wr) (fun q _=>m - (intOf q).toNat)
 case atStart=>exact ⟨0,rfl,Nat.zero_le _,x4.out,x1.out⟩
 case round =>
  obtain ⟨k,rfl,U,u,s⟩:=hrel;have o:=hid u;have h:=hid s;clear u s;by_cases r:k<m
  ·have hc:wr.cell? ⟨g,k,none⟩=some (.int .i64 0):=by
    have:=o.out.cell r;simpa using this
   have xb:wr.frozen? ⟨g,k,none⟩=false:=o.out.frozen k;go_wp2
   go_roundw
   case rel =>
    refine ⟨k+1,y33_,j31_,(o.out.set k k).congr fun i hi=>?_,h.out.setCell E.out _⟩;by_cases J:i=k
    ·simp [J]
    ·by_cases X:i<k
     ·simp [J,X,show i<k+1 by omega]
     ·simp [J,X,show ¬ i<k+1 by omega]
   case measure=>simp [intOf];omega
  ·have K:k=m:=by omega
   have O:=hid (o.out.congr (f':=B9_ d 0) (fun i hi=>by simp [B9_,compF,show i<k by omega]));clear o;go_wp2
   go_loopw [28] (fun q wr=>∃ k:Nat,q=.int .i64 k∧k≤d.length∧Labels wr g m (B9_ d k)∧Below w.heap.size w wr) (fun q _=>d.length - (intOf q).toNat)
   case atStart=>exact ⟨0,rfl,Nat.zero_le _,O.out,h.out⟩
   case round =>
    clear O h K r U;obtain ⟨k,rfl,U,u,s⟩:=hrel;have o:=hid u;have h:=hid s;clear u s;by_cases r:k<d.length
    ·obtain ⟨z,hA,hab,q1,q2⟩:=N.out k r
     subst hA;rw [Yl8] at q1 q2;simp only at q1 q2;have Q:=(h.out.cell (p:=z.add (k * 2)) x33_).trans q1;have R:=(h.out.cell (p:=⟨(z.add (k * 2)).block,(z.add (k * 2)).off+1,none⟩) (by show (z.add (k * 2)).block<_;rw [Z2_];exact hab)).trans q2;clear q1 q2 N;have L:=Xj1 x6.out r;have P:=hid (Zh5 r);obtain ⟨⟨x,y⟩,x0⟩:∃ e,e=d.getD k (0,0):=⟨_,rfl⟩;rw [← x0] at Q R L P;clear x0;simp only at Q R L;obtain ⟨hx,hy⟩:=L;have xc:(x:Int)<m:=j31_;have xd:(y:Int)<m:=j31_;have G:=Blk.new wr 103 #[.int .i64 (x:Int),.int .i64 (y:Int)];have d0:=G.cell 0;have d1:=G.cell 1;simp only [List.getElem?_toArray,List.getElem?_cons_zero,List.getElem?_cons_succ] at d0 d1;have F:=hid (World.rowIs.alloc o.out (.cells #[.int .i64 (x:Int),.int .i64 (y:Int)] 103));have c1:=F.out.cell hx;have c2:=F.out.cell hy;have M:=hid (h.out.alloc h.out.size (.cells #[.int .i64 (x:Int),.int .i64 (y:Int)] 103));clear G;go_wp2;generalize wr.alloc (.cells #[.int .i64 (x:Int),.int .i64 (y:Int)] 103)=W at *
     generalize wr.heap.size=eb at *
     go_still_tail 11,k31_
     change wpList _ _ _ _ _ W.drew
     go_wp2_with fail
     refine (Xj0 g m (B9_ d k) (B9_ d k x) (B9_ d k y) W.drew F.out S).mono ?_;rintro e w3 ⟨rfl,V,T⟩;have x5:=hid V;have x3:=hid T;clear V T;go_wp2
     go_roundw
     case rel =>
      refine ⟨k+1,y33_,j31_,by rw [P.out];exact x5.out,M.out.trans ?_⟩;exact ((Below.refl w.heap.size W).drew).grown x3.out M.out.size (fun i hi=>by injection hi with hi;rw [← hi];exact E.out)
     case measure=>simp [intOf];omega
    ·have K:k=d.length:=by omega
     have x2:=hid (o.out.congr (f':=compF d) (fun i _=>by unfold B9_;rw [K,List.take_length]));go_wp2
     go_ret2
     exact ⟨g,rfl,x2.out,E.out,h.out⟩
open Go.RowKit Go.Maps
def castL (l:List Nat):List Int:=l.map fun v:Nat=>(v:Int)
def castP (pp:List (List Nat)):List (List Int):=pp.map castL
theorem F8_ (c:List (List Nat)):(castP c).length=c.length:=by simp [castP]
theorem Xm9 {c:List (List Nat)} {i:Nat} {p:List Nat} (h:c[i]?=some p):(castP c)[i]?=some (castL p):=by simp [castP,h]
theorem Xj2 (c:List (List Nat)) (i:Nat) (p:List Nat):castP (c.set i p)=(castP c).set i (castL p):=by simp [castP,List.map_set]
theorem Zp6 (l:List Nat):(castL l).length=l.length:=by simp [castL]
theorem Ym0 (l:List Nat) (k:Nat):castL (l ++ [k])=castL l ++ [(k:Int)]:=by simp [castL]
def W7_ (D:DataW Unit) (f:Nat→Nat) (k:Nat):Prop:=∀ r,r<k→f r=r→D.atKey (.int .i64 (r:Int)) (.lit (.int .i64 0))=.lit (.int .i64 (cnt (rootB f) r:Int))
theorem law3:Keyed Tryz.prog 3 := int_keyed Tryz.underlying3
theorem zero3 (w:World):(zeroValue 3).run Tryz.prog w=.ok (.int .i64 0) w:=k31_
theorem Vh0:(Tryz.prog.info? 26).map (fun i=>(i.zero,i.size,i.bytes))=some (some (.slice none 0 0),1,24):=k31_
theorem Yx0 {D:DataW Unit} {f:Nat→Nat} {k:Nat} (h:W7_ D f k) (d:f k≠k):W7_ D f (k+1):=by
 intro r g c;by_cases e:r=k
 ·subst e;exact absurd c d
 ·exact h r j31_ c
theorem isMap_of {w:World} {b n:Nat} {D:DataW Unit} (h:w.ownsMap Tryz.prog 3 (plainElem Tryz.prog 3) b n D):IsMap D:=by
 obtain ⟨_,_,_,_,_,c⟩:=h;exact ⟨_,c⟩
theorem Ym1 {D:DataW Unit} {f:Nat→Nat} {k:Nat} (h:W7_ D f k) (c:IsMap D):W7_ (D.put (.int .i64 (k:Int)) (.lit (.int .i64 (cnt (rootB f) k:Int)))) f (k+1):=by
 intro r j d;by_cases g:r=k
 ·subst g
  exact atKey_put_same c (show WideAt.IsKeyLit (.int .i64 (r:Int)) from trivial) _ _
 ·rw [atKey_put_other (by intro e;injection e;omega)]
  exact h r j31_ d
def Xj3 (w:World) (pp:List (List Int)) (e:Ending) (w':World):Prop :=
 ∃ v,e=.returned (.tuple #[v,.int .i64 0])∧Rows2 w' w'.heap.size v pp∧Below w.heap.size w w'
theorem Ym2 (m:Nat) (v:Value) (J:List (Nat × Nat)) (w:World) (L:Edges w w.heap.size v (castE J)) (h1:1≤m) (h2:m≤64) (h3:J.length≤4096) (h4:Lies m J) :
  Calls Tryz.prog 171 #[.int .i64 m,v] w (Xj3 w (castP (B2_ m (compF J)))):=by
 have Hr:=hid L;have Hc:=hid (Yl9 m v J w L h1 h2 h3 h4);have zb:(m:Int)≤64:=j31_;have za:1≤(m:Int):=j31_;have S:=hid (Xw0 J);have R:=hid (Yp5 J);obtain ⟨A,c,rfl,_⟩:=L;clear h4 h3;have z4:=@run_makeMap Tryz.prog
 go_enter Tryz.func171,Tryz.ntmps171
 go_wp2_with fail
 refine Hc.out.mono ?_;rintro e B ⟨g,rfl,y6,hg,xj⟩;generalize compF J=f at *
 have xu:=hid y6;clear Hc y6 Hr;have y4:g<B.heap.size:=World.rowIs.lt xu.out;obtain ⟨d,I⟩:∃ d,d=B.heap.size:=⟨_,rfl⟩;have xv:Hid ((B.alloc (.map #[] 0)).ownsMap Tryz.prog 3 (plainElem (H:=Unit) Tryz.prog 3) d 0 (.map [])):=by
  show World.ownsMap _ _ _ _ _ _ _;rw [I];exact World.ownsMap_made B Tryz.prog 3 _
 have xp:Hid (Below d B (B.alloc (.map #[] 0))):=by
  show Below _ _ _;rw [I];exact (Below.refl _ B).alloc (Nat.le_refl _) _
 have xy:Hid (d+1≤(B.alloc (.map #[] 0)).heap.size):=by
  show _≤_;rw [I];simp
 have yq:Hid (w.heap.size≤d):=by
  show _≤_;rw [I];exact xj.size
 have yz:g<d:=by rw [I];exact y4
 have yj:=hid xj;clear xj y4;go_wp2;rw [← I];have z9:=hid I;clear I z4
 go_loopw [8,25] (fun vp vk wr=>∃ (k:Nat) (s:List Value) (D:DataW Unit),vk=.int .i64 k∧k≤m∧wr.ownsRow (d+1) 26 1 vp s.length s∧Fam wr (d+1) s (castP (B2_ k f)) ∧
   wr.ownsMap Tryz.prog 3 (plainElem Tryz.prog 3) d k D∧W7_ D f k∧Below d B wr∧d+1≤wr.heap.size) (fun _ vk _=>m - (intOf vk).toNat)
 case atStart=>exact ⟨0,[],.map [],rfl,Nat.zero_le _,World.ownsRow_nil _ _ _ _,Vv9 _ _,xv.out,fun r L=>absurd L j31_,xp.out,xy.out⟩
 case round =>
  obtain ⟨k,s,D,rfl,hk,xn,y3,y8,x7,y1,ye⟩:=hrel;clear xv xp xy;obtain ⟨vA,vc,rfl⟩:=L5_ xn;have x4:=hid xn;have x2:=hid y3;have xd:=hid y8;have xx:=hid x7;have x0:=hid y1;clear xn y3 y8 x7 y1;by_cases z3:k<m
  ·have hc:wr.cell? ⟨g,k,none⟩=some (.int .i64 (f k:Int)):=(x0.out.cell (p:=⟨g,k,none⟩) (yz)).trans (xu.out.cell z3)
   have xi:Hid (s.length=cnt (rootB f) k):=by
    show _=_;rw [x2.out.1,F8_,A0_]
   have zf:s.length≤64:=by
    rw [xi.out];have:=F3_ (rootB f) k;omega
   have zg:(s.length:Int)≤64:=j31_;obtain ⟨x,Z⟩:∃ x,x=f k:=⟨_,rfl⟩;rw [← Z] at hc;have zi:x≤k:=by rw [Z];exact S.out k
   have ym:Hid (f x=x):=by
    show f x=x;rw [Z];exact R.out k
   have y0:=hid (WalkArith.wf_i64 (n:=(x:Int)) j31_);have yv:=hid (WalkArith.wf_i64 (n:=(s.length:Int)) j31_);have O:=hid Z;clear Z;by_cases W:x=k
   case' pos =>
    have T:=hid W;have z2:((k:Int)==(x:Int))=true:=by simp [W]
    clear W
    go_wp2_with (at_mapUpdate;refine wpList_mapUpdate_own _ rfl _ _ _ 197 rfl 3 3 law3 Tryz.underlying197 _ d k _ rfl xd.out z33_ _ _ _ rfl rfl (keyOf_int_mk Tryz.underlying3 y0.out) _ [] (plainElem_int Tryz.underlying3 yv.out) ?_)
    intro w2 y9 y5;have xw:=hid y9;have Q:=hid y5;clear y9 y5;have z6:d+1≤w2.heap.size:=Nat.le_trans ye Q.out.size;have yi:∀ q,(Value.slice vA s.length vc).ownBlock=some q→d+1≤q:=fun q hq=>(x4.out.lt q hq).1;have x5:=hid yi;clear yi;have xf:=hid (x4.out.kept Q.out (by
     rcases hb:(Value.slice vA s.length vc).ownBlock with _ | q
     ·exact .inl rfl
     ·right
      intro E;injection E with E;have:=x5.out q hb;omega))
    have x3:=hid (x2.out.apart Q.out j31_);have xq:=hid (x0.out.grown Q.out j31_ (fun i hi=>by injection hi with hi;omega));have K:=(Blk.new w2 26 #[.slice none 0 0]).cell 0;simp only [List.getElem?_toArray,List.getElem?_cons_zero] at K;have x1:=hid K;clear K
    go_wp2_with (at_builtin;refine J3_ rfl _ _ 22 26 (.slice none 0 0) 24 rfl Tryz.underlying22 Vh0 rfl (d+1) _ (.slice none 0 0) s rfl (xf.out.alloc _) w2.heap.size rfl x1.out rfl j31_ j31_ j32_ ?_)
    intro z8 o yb V _;obtain ⟨y,hD⟩:∃ y,y=D.put (.int .i64 (x:Int)) (.lit (.int .i64 (s.length:Int))):=⟨_,rfl⟩;have xg:Hid (W7_ y f (k+1)):=by
     show W7_ _ _ _;rw [hD,T.out,xi.out];exact Ym1 xx.out (isMap_of xd.out)
    have xe:Hid (o.ownsMap Tryz.prog 3 (plainElem Tryz.prog 3) d (k+1) y):=by
     show World.ownsMap _ _ _ _ _ _ _;rw [hD];refine (xw.out.alloc _).kept V ?_;intro E;have:=x5.out d E.symm;omega
    have xr:=hid ((xq.out.alloc j31_ (.cells #[.slice none 0 0] 26)).grown V j32_ (fun i hi=>by have:=x5.out i hi;omega));have z7:d+1≤o.heap.size:=Nat.le_trans j32_ V.size;obtain ⟨h,x8⟩:∃ h,h=s ++ [.slice none 0 0]:=⟨_,rfl⟩;have N:Hid (o.ownsRow (d+1) 26 1 z8 h.length h):=by
     show World.ownsRow _ _ _ _ _ _ _;rw [x8,List.length_append];exact yb
    have P:Hid (Fam o (d+1) h (castP (X7_ k f))):=by
     show Fam _ _ _ _;have L:castP (X7_ k f)=castP (B2_ k f) ++ [[]]:=by
      unfold X7_;rw [← O.out,if_pos T.out];simp [castP,castL]
     rw [x8,L];refine Fam.more ?_;refine (x3.out.new (World.grownBy_alloc _ (.cells #[.slice none 0 0] 26) none)).kept V ?_;intro v X;obtain ⟨i,hi,rfl⟩:=List.mem_iff_getElem.1 X;have xm:i<(castP (B2_ k f)).length:=by rw [← x3.out.1];exact hi
     exact Yb8 (x3.out.2.1 i _ _ (List.getElem?_eq_getElem hi) (List.getElem?_eq_getElem xm)) xf.out z32_
    have Y:0<h.length:=by rw [x8,List.length_append];simp
    obtain ⟨go,U,rfl,z0⟩:=R6_ N.out Y;clear hD x8 Y yb V x1 xq x3 xf x5 xw Q z6
   case' neg =>
    have T:=hid W;have z2:((k:Int)==(x:Int))=false:=by rw [beq_eq_false_iff_ne];omega
    clear W;obtain ⟨o,rfl⟩:∃ o,o=wr:=⟨_,rfl⟩;obtain ⟨h,rfl⟩:∃ h,h=s:=⟨_,rfl⟩;obtain ⟨y,rfl⟩:∃ y,y=D:=⟨_,rfl⟩;have xg:Hid (W7_ y f (k+1)):=Yx0 xx.out (by rw [← O.out];exact T.out);have xe:=hid (xd.out.mono (Nat.le_succ k));have xr:=x0;have z7:=ye;have N:=x4;have P:Hid (Fam o (d+1) h (castP (X7_ k f))):=by
     show Fam _ _ _ _;unfold X7_;rw [← O.out,if_neg T.out];exact x2.out
    have Y:0<h.length:=by
     rw [P.out.1,F8_];exact Nat.lt_of_le_of_lt (Nat.zero_le _) (Zu1 (k:=k) S.out R.out)
    obtain ⟨go,U,X,z0⟩:=R6_ N.out Y;injection X with hv1 _ hv2;subst hv1;obtain rfl:U=vc:=hv2.symm;clear Y
   all_goals
    go_wp2_with (at_lookup;refine wpList_lookup_own_int _ rfl _ _ 197 rfl 3 3 .i64 law3 Tryz.underlying197 Tryz.underlying3 (zero3 _) d (k+1) y rfl xe.out _ _ rfl (keyOf_int_mk Tryz.underlying3 y0.out) ?_)
    intro c z _;rw [xg.out x j31_ ym.out] at z;obtain rfl:c=(cnt (rootB f) x:Int):=by injection z with z;injection z with _ z;exact z.symm
    clear z;have yc:cnt (rootB f) x<(X7_ k f).length:=by rw [O.out];exact Zu1 S.out R.out
    have z:(X7_ k f)[cnt (rootB f) x]?=some (Q3_ k f x):=by rw [O.out];exact Xw1 S.out R.out
    have yr:Hid (castP (B2_ (k+1) f)=(castP (X7_ k f)).set (cnt (rootB f) x) (castL (Q3_ k f x) ++ [(k:Int)])):=by
     show _=_;rw [Yf4 S.out R.out,Xj2,Ym0,← O.out]
    generalize cnt (rootB f) x=q at *
    have xo:h.length=(X7_ k f).length:=by rw [P.out.1,F8_]
    have z5:q<h.length:=by rw [xo];exact yc
    have zh:h.length≤65:=by
     rw [xo,Zx6];have:=F3_ (rootB f) (k+1);omega
    have hu:h[q]?=some h[q]:=List.getElem?_eq_getElem z5;have x6:=P.out.2.1 q _ _ hu (Xm9 z);have y2:=N.out.cells (g:=go) rfl q _ hu;have yy:o.cell? ⟨go,q,none⟩=some h[q]:=by
     rw [← y2];unfold Addr.add;split<;>simp_all
    clear y2;have x7:(castL (Q3_ k f x)).length≤64:=by
     rw [Zp6];have:=Zf3 k f x;omega
    generalize h[q]=u at *
    have ze:(q:Int)<(h.length:Int):=j31_;obtain ⟨j,xa⟩:∃ j,j=ints (castL (Q3_ k f x)):=⟨_,rfl⟩;have x9:j.length=(castL (Q3_ k f x)).length:=by rw [xa,Z7_]
    rw [← xa,← x9] at x6;rw [← x9] at x7;obtain ⟨uA,uc,rfl⟩:=L5_ x6;have xc:=hid x6;have Hu:=hid hu;have yx:=hid xa;have yw:=hid x9;clear x6 hu z yc xo xi xa x9;have K:=(Blk.new o 3 #[.int .i64 (k:Int)]).cell 0;simp only [List.getElem?_toArray,List.getElem?_cons_zero] at K;have x1:=hid K;clear K;have yg:(o.alloc (.cells #[.int .i64 (k:Int)] 3)).heap.size=o.heap.size+1:=x32_;have xh:=hid yg;have yh:∀ i,(Value.slice uA j.length uc).ownBlock=some i→d+1≤i:=fun i hi=>(xc.out.lt i hi).1;have xz:=hid yh;clear yg yh
    go_wp2_with (at_builtin;refine J3_ rfl _ _ 26 3 (.int .i64 0) 8 rfl Tryz.underlying26 info3 rfl (d+1) _ (.int .i64 (k:Int)) j rfl (xc.out.alloc _) o.heap.size rfl x1.out rfl j31_ j31_ (by rw [xh.out];omega) ?_)
    intro u5 C xl xk y7;have xb:=hid ((World.grownBy_alloc o (.cells #[.int .i64 (k:Int)] 3) (Value.slice uA j.length uc).ownBlock).trans xk);have ya:(Value.slice (some ⟨go,0,none⟩) h.length U).ownBlock=none∨(Value.slice (some ⟨go,0,none⟩) h.length U).ownBlock≠(Value.slice uA j.length uc).ownBlock:=Yb8 N.out xc.out z32_;have M:=hid (N.out.kept xb.out ya);have zc:C.cell? ⟨go,q,none⟩=some (.slice uA j.length uc):=by rw [M.out.cellAt q j31_];exact Hu.out
    have zd:C.frozen? ⟨go,q,none⟩=false:=M.out.frozenAt q;have yn:=hid xl;have xt:=hid xk;have yo:=hid y7;obtain ⟨F,G,rfl⟩:=L5_ xl;clear xl xk y7 ya yy;have yf:(o.alloc (.cells #[.int .i64 (k:Int)] 3)).heap.size≤C.heap.size:=xt.out.size;have yl:Hid (Fam (C.setCell ⟨go,q,none⟩ (.slice F (j.length+1) G)) (d+1) (h.set q (.slice F (j.length+1) G)) (castP (B2_ (k+1) f))):=by
     show Fam _ _ _ _;rw [yr.out];have hq:ints (castL (Q3_ k f x) ++ [(k:Int)])=j ++ [.int .i64 (k:Int)]:=by rw [X4_,yx.out];rfl
     have h5:Fam C (d+1) (h.set q (.slice F (j.length+1) G)) ((castP (X7_ k f)).set q (castL (Q3_ k f x) ++ [(k:Int)])):=by
      refine (P.out.new (World.grownBy_alloc _ (.cells #[.int .i64 (k:Int)] 3) none)).grow Hu.out xt.out ?_ (by rw [xh.out];exact yo.out);rw [hq,List.length_append,← yw.out];exact yn.out
     refine h5.kept (row:=some go) (M.out.stored q _).2 ?_;intro v X;obtain ⟨i,hi,rfl⟩:=List.mem_iff_getElem.1 X;have xm:i<((castP (X7_ k f)).set q (castL (Q3_ k f x) ++ [(k:Int)])).length:=by rw [← h5.1];exact hi
     exact Yb8 (h5.2.1 i _ _ (List.getElem?_eq_getElem hi) (List.getElem?_eq_getElem xm)) M.out z32_
    have ys:Hid ((C.setCell ⟨go,q,none⟩ (.slice F (j.length+1) G)).ownsRow (d+1) 26 1 (.slice (some ⟨go,0,none⟩) h.length U) (h.set q (.slice F (j.length+1) G)).length (h.set q (.slice F (j.length+1) G))):=by
     show World.ownsRow _ _ _ _ _ _ _;rw [List.length_set];exact (M.out.stored q _).1
    have yp:Hid ((C.setCell ⟨go,q,none⟩ (.slice F (j.length+1) G)).ownsMap Tryz.prog 3 (plainElem Tryz.prog 3) d (k+1) y):=by
     refine (xe.out.kept xb.out ?_).kept (row:=some go) (M.out.stored q _).2 ?_
     ·intro E
      have:=xz.out d E.symm;omega
     ·intro E
      injection E with E;omega
    have yk:Hid (Below d B (C.setCell ⟨go,q,none⟩ (.slice F (j.length+1) G))):=by
     refine (xr.out.grown xb.out j31_ (fun i hi=>by have:=xz.out i hi;omega)).setCell ?_ _;show d≤go;omega
    have yd:d+1≤(C.setCell ⟨go,q,none⟩ (.slice F (j.length+1) G)).heap.size:=by
     have:o.heap.size+1≤C.heap.size:=by rw [← xh.out];exact yf
     simp [World.setCell];omega
    have yu:=hid yd;clear yd yf;go_wp2
    go_roundw
    case rel=>exact ⟨k+1,_,y,y33_,j31_,ys.out,yl.out,yp.out,xg.out,yk.out,yu.out⟩
    case measure=>simp [intOf];omega
  ·have z1:k=m:=by omega
   have yt:=hid (x2.out.rows x4.out);subst z1;go_wp2
   go_ret2
   refine ⟨_,rfl,yt.out,yj.out.trans (x0.out.mono yq.out)⟩
open Go.RowKit
def Vh1 (w:World) (x:Int) (e:Ending) (w':World):Prop:=e=.returned (.int .i64 x)∧Below w.heap.size w w'
def rankN (m:Nat) (ns:List (Nat × Nat)):Int:=(m:Int) - (E2_ m ns:Int)
theorem Xj4 (m:Nat) (v:Value) (d:List (Nat × Nat)) (w:World) (h:Edges w w.heap.size v (castE d)) (p:1≤m) (q:m≤64) (h3:d.length≤4096) (g:Lies m d) :
  Calls Tryz.prog 154 #[.int .i64 m,v] w (Vh1 w (rankN m d)):=by
 have o:=hid (Ym2 m v d w h p q h3 g);have y:(m:Int)≤64:=j31_;have x:1≤(m:Int):=j31_;obtain ⟨A,c,rfl,_⟩:=h;clear g h3
 go_enter Tryz.func154,Tryz.ntmps154
 go_wp2_with fail
 refine o.out.mono ?_;rintro e D ⟨C,rfl,s,r⟩;obtain ⟨u,c1,rfl,_⟩:=s;rw [F8_,A0_];have z:=F3_ (rootB (compF d)) m;have j:Hid ((m:Int) - (cnt (rootB (compF d)) m:Int)=rankN m d):=rfl;generalize cnt (rootB (compF d)) m=k at *
 have B:(k:Int)≤m:=j31_;go_wp2;go_ret;exact ⟨by rw [← j.out];rfl,r⟩
open Go.RowKit
open Go.RowKit
open Go.RowKit
open Go.RowKit
open Go.RowKit
theorem R8_ {w w':World} {base:Nat} {e:TypeId} {c:Nat} {v:Value} {n:Nat} {d:List Value} (h:w.ownsRow base e c v n d) (hb:Below w.heap.size w w'):w'.ownsRow base e c v n d :=
 h.kept (Y8_ hb none) (by
  rcases v.ownBlock with _ | q
  ·exact .inl rfl
  ·exact .inr x32_)
end Wp
end Go.Proofs.YtgpljiijjnaofaaGreatDoor
