/- Graphs in memory, and the program's components, walked. The program's parts and rank of a graph, walked. -/
import Derived.Test.YtnbcaibflhgdoaaGreatDoorZP
import Derived.Test.YtnbcaibflhgdoaaGreatDoorZA
import Derived.Deep.Slices
import Derived.Deep.OwnRows
import Derived.LoopN
import Derived.StillTailTactics
import Derived.Maps.OwnOps
import Derived.Maps.Views
import Derived.Test.YtnbcaibflhgdoaaGreatDoorX0A
import Derived.Test.YtnbcaibflhgdoaaGreatDoorX0B
set_option maxHeartbeats 8000000
set_option maxRecDepth 100000
open Go.Lib (hid)
namespace Go.Proofs.YtnbcaibflhgdoaaGreatDoor
open Go.RowKit
namespace Wp
def Edges (w:World) (B:Nat) (v:Value) (es:List (Int × Int)):Prop :=
 ∃ A c,v=.slice A es.length c∧(es.length≤c∧c≤maxLen∧(A=none→c=0)) ∧
  ∀ k,k<es.length→∃ ad:Addr,A=some ad∧ad.block<B∧w.cell? (ad.add (k * 2))=some (.int .i64 (es.getD k (0,0)).1)∧w.cell? ⟨(ad.add (k * 2)).block,(ad.add (k * 2)).off+1,none⟩=some (.int .i64 (es.getD k (0,0)).2)
open Go.RowKit
def okE (n:Int) (e:Int × Int):Bool:=decide (0≤e.1∧e.1<n∧0≤e.2∧e.2<n)
def sizeB (n:Int) (es:List (Int × Int)):Bool:=decide (1≤n∧n≤64∧es.length≤4096)
def isG (n:Int) (es:List (Int × Int)):Bool:=sizeB n es && es.all (okE n)
theorem Vv0 {n:Int} {es:List (Int × Int)} (h:¬ (1≤n∧n≤64∧es.length≤4096)):isG n es=false:=by
 unfold isG sizeB;rw [decide_eq_false h];rfl
theorem Zi7 {es:List (Int × Int)} {k:Nat} (c:k<es.length):es.getD k (0,0)=es[k]:=by simp [List.getD,c]
theorem isG_bad {n:Int} {es:List (Int × Int)} {k:Nat} (c:k<es.length) (h:okE n (es.getD k (0,0))=false):isG n es=false:=by
 unfold isG;rw [Bool.and_eq_false_iff];right;rw [← Bool.not_eq_true,List.all_eq_true];intro d;have:=d _ (List.getElem_mem c);rw [Zi7 c,this] at h;cases h
def Yy8 (n:Int) (es:List (Int × Int)) (k:Nat):Prop:=∀ j,j<k→okE n (es.getD j (0,0))=true
theorem Zr7 {n:Int} {es:List (Int × Int)} {k:Nat} (h:Yy8 n es k) (d:okE n (es.getD k (0,0))=true):Yy8 n es (k+1):=by
 intro j e;by_cases c:j=k
 ·rw [c];exact d
 ·exact h j j29_
theorem isG_end {n:Int} {es:List (Int × Int)} (c:1≤n∧n≤64∧es.length≤4096) {k:Nat} (g:k=es.length) (h:Yy8 n es k):isG n es=true:=by
 unfold isG sizeB;rw [decide_eq_true c,Bool.true_and,List.all_eq_true];intro e d;obtain ⟨j,f,rfl⟩:=List.mem_iff_getElem.1 d;have:=h j j29_
 rwa [Zi7 f] at this
theorem idx0 (x y:Int) (w:World):(Instr.index 36 (.agg #[.int .i64 x,.int .i64 y]) (.int .i64 0)).run Tryz.prog w=.ok (.int .i64 x) w:=k29_
theorem idx1 (x y:Int) (w:World):(Instr.index 36 (.agg #[.int .i64 x,.int .i64 y]) (.int .i64 1)).run Tryz.prog w=.ok (.int .i64 y) w:=k29_
theorem Yc7 (n:Int) (v:Value) (es:List (Int × Int)) (w:World) (Q:Edges w w.heap.size v es) (O:1≤n) (P:n≤64) (N:es.length≤4096) :
  Calls Tryz.prog 171 #[.int .i64 n,v] w (Says w (isG n es)):=by
 obtain ⟨A,c,rfl,_,C⟩:=Q;have s:=hid C;clear C;have r:=hid (fun k=>@isG_bad n es k);have J:=hid (fun k=>@isG_end n es ⟨O,P,N⟩ k);have X:=idx0;have Y:=idx1;have W:(es.length:Int)≤4096:=j29_
 go_enter Tryz.func171,Tryz.ntmps171
 go_wp2
 go_loopw [22] (fun q wr=>∃ k:Nat,q=.int .i64 k∧k≤es.length∧Below w.heap.size w wr∧Yy8 n es k) (fun q _=>es.length - (intOf q).toNat)
 case atStart=>exact ⟨0,rfl,Nat.zero_le _,Below.refl _ _,fun j M=>absurd M j29_⟩
 case round =>
  obtain ⟨k,rfl,V,G,F⟩:=hrel;have Hwr:=hid G;clear G;have u:=hid F;clear F;by_cases E:k<es.length
  ·obtain ⟨d,hA,hab,z,B⟩:=s.out k E
   subst hA;have T:wr.cell? (d.add (k * 2))=some (.int .i64 (es.getD k (0,0)).1):=((Hwr.out).cell x31_).trans z;have U:wr.cell? ⟨(d.add (k * 2)).block,(d.add (k * 2)).off+1,none⟩=some (.int .i64 (es.getD k (0,0)).2):=((Hwr.out).cell (by show (d.add (k * 2)).block<_;rw [Z2_];exact hab)).trans B;have Hno:=hid (r.out k E);have L:=hid (Zr7 (n:=n) (es:=es) (k:=k) u.out);clear z B r s;have e:Hid (okE n (es.getD k (0,0))=decide (0≤(es.getD k (0,0)).1∧(es.getD k (0,0)).1<n∧0≤(es.getD k (0,0)).2∧(es.getD k (0,0)).2<n)):=rfl;generalize (es.getD k (0,0)).1=x at *
   generalize (es.getD k (0,0)).2=y at *
   by_cases h:0≤x∧x<n
   ·obtain ⟨R,H⟩:=h
    by_cases o:0≤y∧y<n
    ·obtain ⟨S,I⟩:=o
     have Hx:Hid (okE n (es.getD k (0,0))=true):=by
      show okE n (es.getD k (0,0))=true;rw [e.out];simp [R,H,S,I]
     go_wp2;refine wp_loop_rounds 3 ?_;rw [rounds_succ];go_wp2;rw [rounds_succ];go_wp2;rw [rounds_succ];go_wp2
     go_roundw
     case rel=>exact ⟨k+1,y31_,j29_,(Hwr.out).alloc (Hwr.out).size _,L.out Hx.out⟩
     case measure=>simp [intOf];omega
    ·have Hx:Hid (okE n (es.getD k (0,0))=false):=by
      show okE n (es.getD k (0,0))=false;rw [e.out,decide_eq_false_iff_not];rintro ⟨_,_,h3,g⟩;exact o ⟨h3,g⟩
     have p:y<0∨n≤y:=j29_;clear o;rcases p with p | p
     ·exact k26_
     ·have I:0≤y:=by omega
      exact k26_
   ·have Hx:Hid (okE n (es.getD k (0,0))=false):=by
     show okE n (es.getD k (0,0))=false;rw [e.out,decide_eq_false_iff_not];rintro ⟨h3,g,_⟩;exact h ⟨h3,g⟩
    have m:x<0∨n≤x:=j29_;clear h;rcases m with m | m
    ·go_wp2
     refine wp_loop_rounds 3 ?_;exact q6_
    ·have H:0≤x:=by omega
     go_wp2;refine wp_loop_rounds 3 ?_;exact q6_
  ·have D:k=es.length:=by omega
   have K:=hid (J.out k D u.out);subst D;go_wp2;go_ret;exact X6_ K.out rfl Hwr.out
theorem Zr8 (n:Int) (v:Value) (es:List (Int × Int)) (w:World) (d:Edges w w.heap.size v es) (hl:es.length≤1048576) :
  Calls Tryz.prog 171 #[.int .i64 n,v] w (Says w (isG n es)):=by
 by_cases h:1≤n∧n≤64∧es.length≤4096
 ·exact Yc7 n v es w d h.1 h.2.1 h.2.2
 ·have Hno:=hid (Vv0 h)
  have g:=hid d;obtain ⟨A,c,rfl,_⟩:=d;have k:(es.length:Int)≤1048576:=j29_;have h3:n<1∨(1≤n∧64<n)∨(1≤n∧n≤64∧4096<(es.length:Int)):=j29_;clear h;rcases h3 with h3 | ⟨h3,e⟩ | ⟨h3,e,j⟩
  ·exact k6_
  ·exact k6_
  ·exact k6_
theorem Yc8 (n:Int) (v:Value) (es:List (Int × Int)) (w:World) (c:Edges w w.heap.size v es) (hl:es.length≤1048576) {b:Bool} (hb:isG n es=b) :
  Calls Tryz.prog 171 #[.int .i64 n,v] w (Says w b):=by
 subst hb;exact Zr8 n v es w c hl
open Go.RowKit
def Labels (w:World) (g n:Nat) (f:Nat→Nat):Prop:=w.rowIs g 3 n fun i=>.int .i64 (f i:Int)
theorem Labels.congr {w:World} {g n:Nat} {f f':Nat→Nat} (h:Labels w g n f) (e:∀ i,i<n→f i=f' i):Labels w g n f':=World.rowIs.congr h fun i c=>by rw [e i c]
theorem Labels.set {w:World} {g n:Nat} {f:Nat→Nat} (h:Labels w g n f) (i:Nat) (v:Nat):Labels (w.setCell ⟨g,i,none⟩ (.int .i64 (v:Int))) g n (fun j=>if j=i then v else f j) :=
 World.rowIs.congr (World.rowIs.set h i _) fun j _=>k13_
def Xg6 (w:World) (g n:Nat) (f:Nat→Nat) (e:Ending) (w':World):Prop:=e=.returned (.tuple #[])∧Labels w' g n f∧w.grownBy w' (some g)
theorem Yc9 {f f':Nat→Nat} {lo e k:Nat} (h:f'=fun v=>if f v=e then lo else f v) :
  (f k=e→(fun j=>if j=k then lo else if j<k then f' j else f j)=fun j=>if j<k+1 then f' j else f j)∧(f k≠e→(fun j=>if j<k then f' j else f j)=fun j=>if j<k+1 then f' j else f j):=by
 subst h;constructor
 ·intro g
  funext j
  by_cases c:j=k
  ·subst c;simp [g]
  ·by_cases d:j<k
   ·simp [c,d,show j<k+1 by omega]
   ·simp [c,d,show ¬ j<k+1 by omega]
 ·intro g
  funext j
  by_cases c:j=k
  ·subst c;simp [g]
  ·by_cases d:j<k
   ·simp [d,show j<k+1 by omega]
   ·simp [d,show ¬ j<k+1 by omega]
theorem Yy9 (g n:Nat) (f f':Nat→Nat) (a b lo c:Nat) (u:f'=fun v=>if f v=c then lo else f v) (J:lo<c) (E:(lo=a∧c=b)∨(c=a∧lo=b)) (w:World) (s:Labels w g n f) (K:n≤64) :
  Calls Tryz.prog 172 #[.slice (some ⟨g,0,none⟩) n n,.int .i64 a,.int .i64 b] w (Xg6 w g n f'):=by
 have C:=hid s;clear s;have m:=hid (fun k=>Yc9 (k:=k) u);clear u;have L:(n:Int)≤64:=j29_;have M:((lo:Int)==(c:Int))=false:=by rw [beq_eq_false_iff_ne];omega
 have N:((c:Int)==(lo:Int))=false:=by rw [beq_eq_false_iff_ne];omega
 have O:¬ c<lo:=j29_;rcases E with ⟨q,r⟩ | ⟨q,r⟩
 all_goals
  subst q;subst r
  go_enter Tryz.func172,Tryz.ntmps172
  go_wp2
  go_loopw [21] (fun h wr=>∃ k:Nat,h=.int .i64 k∧k≤n∧Labels wr g n (fun j=>if j<k then f' j else f j)∧w.grownBy wr (some g)) (fun h _=>n - (intOf h).toNat)
  case atStart=>exact ⟨0,rfl,Nat.zero_le _,C.out.congr (fun i _=>by simp),World.grownBy.refl _ _⟩
  case round =>
   obtain ⟨k,rfl,I,z,y⟩:=hrel;have d:=hid z;have e:=hid y;clear z y;by_cases G:k<n
   ·have hc:wr.cell? ⟨g,k,none⟩=some (.int .i64 (f k:Int)):=by
     have:=d.out.cell G;simpa using this
    have H:wr.frozen? ⟨g,k,none⟩=false:=d.out.frozen k;have o:=hid (m.out k).1;have p:=hid (m.out k).2;have D:=hid (fun v=>d.out.set k v);generalize f k=x at hc o p;by_cases B:x=c
    ·subst B
     go_wp2
     go_roundw
     case rel =>
      refine ⟨k+1,y31_,j29_,?_,H3_ e.out (.inl rfl) _⟩;rw [← o.out rfl];exact D.out _
     case measure=>simp [intOf];omega
    ·have P:((x:Int)==(c:Int))=false:=by rw [beq_eq_false_iff_ne];omega
     go_wp2
     go_roundw
     case rel=>exact ⟨k+1,y31_,j29_,by rw [← p.out B];exact d.out,e.out⟩
     case measure=>simp [intOf];omega
   ·have F:k=n:=by omega
    subst F;go_wp2
    go_end0
    exact ⟨rfl,d.out.congr (fun i c=>by simp [c]),e.out⟩
theorem Yr6 (g n:Nat) (f:Nat→Nat) (a b:Nat) (w:World) (d:Labels w g n f) (e:n≤64) :
  Calls Tryz.prog 172 #[.slice (some ⟨g,0,none⟩) n n,.int .i64 a,.int .i64 b] w (Xg6 w g n (K5_ f a b)):=by
 rcases Nat.lt_trichotomy a b with c | c | c
 ·refine Yy9 g n f _ a b a b ?_ c (.inl ⟨rfl,rfl⟩) w d e
  funext v
  unfold K5_;rw [Nat.max_eq_right j29_,Nat.min_eq_left j29_]
 ·subst c
  rw [Zv5];have h:=hid d;clear d;have j:(n:Int)≤64:=j29_
  go_enter Tryz.func172,Tryz.ntmps172
  go_wp2;refine bodyPost_ret (results_none rfl _ _ _) rfl ?_;exact ⟨rfl,h.out,World.grownBy.refl _ _⟩
 ·refine Yy9 g n f _ a b b a ?_ c (.inr ⟨rfl,rfl⟩) w d e
  funext v
  unfold K5_;rw [Nat.max_eq_left j29_,Nat.min_eq_right j29_]
open Go.RowKit
def castE (ns:List (Nat × Nat)):List (Int × Int):=ns.map fun e=>((e.1:Int),(e.2:Int))
theorem I0_ (c:List (Nat × Nat)):(castE c).length=c.length:=by simp [castE]
theorem Yd0 (c:List (Nat × Nat)) (k:Nat):(castE c).getD k (0,0)=(((c.getD k (0,0)).1:Int),((c.getD k (0,0)).2:Int)):=by
 unfold castE;rw [List.getD_eq_getElem?_getD,List.getD_eq_getElem?_getD,List.getElem?_map];rcases c[k]? with _ | e<;>rfl
theorem Vv1 {m:Nat} {c:List (Nat × Nat)} (h:1≤m) (j:m≤64) (h3:c.length≤4096) (d:Lies m c):isG m (castE c)=true:=by
 unfold isG sizeB;rw [Bool.and_eq_true,decide_eq_true_iff,List.all_eq_true];refine ⟨⟨j29_,j29_,by rw [I0_];exact h3⟩,fun e f=>?_⟩;obtain ⟨x,g,rfl⟩:=List.mem_map.1 f;have:=d x g;simp only [okE,decide_eq_true_iff];omega
def Zr9 (w:World) (m:Nat) (f:Nat→Nat) (e:Ending) (w':World):Prop :=
 ∃ g,e=.returned (.tuple #[.slice (some ⟨g,0,none⟩) m m,.int .i64 0])∧Labels w' g m f∧w.heap.size≤g∧Below w.heap.size w w'
def B4_ (ns:List (Nat × Nat)) (k:Nat):Nat→Nat:=compF (ns.take k)
theorem Zd5 {c:List (Nat × Nat)} {k:Nat} (d:k<c.length):B4_ c (k+1)=A1_ (B4_ c k) (c.getD k (0,0)):=by
 unfold B4_;rw [List.take_succ_eq_append_getElem d,U7_];simp [List.getD,d]
theorem Yr7 {m:Nat} {c:List (Nat × Nat)} (h:Lies m c) {k:Nat} (d:k<c.length):(c.getD k (0,0)).1<m∧(c.getD k (0,0)).2<m:=by
 have:=h c[k] (List.getElem_mem d);simpa [List.getD,d] using this
theorem Yd1 (m:Nat) (v:Value) (d:List (Nat × Nat)) (w:World) (Z:Edges w w.heap.size v (castE d)) (h1:1≤m) (T:m≤64) (h3:d.length≤4096) (I:Lies m d) :
  Calls Tryz.prog 144 #[.int .i64 m,v] w (Zr9 w m (compF d)):=by
 have Hr:=hid Z;have Hg:=hid (Vv1 h1 T h3 I);have x6:=hid I;have hl:(castE d).length≤1048576:=by rw [I0_];omega
 obtain ⟨A,c,hv,_,J⟩:=Z;rw [I0_] at hv J;subst hv;have O:=hid J;clear J I;have x9:(m:Int)≤64:=j29_;have x8:1≤(m:Int):=j29_;have xa:(d.length:Int)≤4096:=j29_;have x7:=fun W=>run_make_row' 26 3 (.int .i64 0) 8 Tryz.underlying26 info3 rfl .i64 .i64 m j29_ j29_ W
 go_enter Tryz.func144,Tryz.ntmps144
 go_wp2_with fail
 refine (Yc8 m _ (castE d) w Hr.out hl Hg.out).mono ?_;rintro e E ⟨rfl,C⟩;obtain ⟨g,D⟩:∃ g,g=E.heap.size:=⟨_,rfl⟩;have F:Hid (w.heap.size≤g):=by
  show _≤_;rw [D];exact C.size
 have x4:Hid (Labels (E.alloc (.cells (madeCells #[.int .i64 0] m) 3)) g m (fun j=>if j<0 then j else 0)):=by
  show Labels _ _ _ _;rw [D];exact World.rowIs.congr (World.rowIs_made E (.int .i64 0) m 3) fun i _=>by simp
 have x1:Hid (Below w.heap.size w (E.alloc (.cells (madeCells #[.int .i64 0] m) 3))):=C.alloc C.size _;clear C;go_wp2;rw [← D];clear D x7
 go_loopw [18] (fun q wr=>∃ k:Nat,q=.int .i64 k∧k≤m∧Labels wr g m (fun j=>if j<k then j else 0)∧Below w.heap.size w wr) (fun q _=>m - (intOf q).toNat)
 case atStart=>exact ⟨0,rfl,Nat.zero_le _,x4.out,x1.out⟩
 case round =>
  obtain ⟨k,rfl,V,z,s⟩:=hrel;have o:=hid z;have h:=hid s;clear z s;by_cases r:k<m
  ·have hc:wr.cell? ⟨g,k,none⟩=some (.int .i64 0):=by
    have:=o.out.cell r;simpa using this
   have xb:wr.frozen? ⟨g,k,none⟩=false:=o.out.frozen k;go_wp2
   go_roundw
   case rel =>
    refine ⟨k+1,y31_,j29_,(o.out.set k k).congr fun i u=>?_,h.out.setCell F.out _⟩;by_cases K:i=k
    ·simp [K]
    ·by_cases Y:i<k
     ·simp [K,Y,show i<k+1 by omega]
     ·simp [K,Y,show ¬ i<k+1 by omega]
   case measure=>simp [intOf];omega
  ·have L:k=m:=by omega
   have P:=hid (o.out.congr (f':=B4_ d 0) (fun i u=>by simp [B4_,compF,show i<k by omega]));clear o;go_wp2
   go_loopw [28] (fun q wr=>∃ k:Nat,q=.int .i64 k∧k≤d.length∧Labels wr g m (B4_ d k)∧Below w.heap.size w wr) (fun q _=>d.length - (intOf q).toNat)
   case atStart=>exact ⟨0,rfl,Nat.zero_le _,P.out,h.out⟩
   case round =>
    clear P h L r V;obtain ⟨k,rfl,V,z,s⟩:=hrel;have o:=hid z;have h:=hid s;clear z s;by_cases r:k<d.length
    ·obtain ⟨B,hA,hab,q1,q2⟩:=O.out k r
     subst hA;rw [Yd0] at q1 q2;simp only at q1 q2;have R:=(h.out.cell (p:=B.add (k * 2)) x31_).trans q1;have S:=(h.out.cell (p:=⟨(B.add (k * 2)).block,(B.add (k * 2)).off+1,none⟩) (by show (B.add (k * 2)).block<_;rw [Z2_];exact hab)).trans q2;clear q1 q2 O;have M:=Yr7 x6.out r;have Q:=hid (Zd5 r);obtain ⟨⟨x,y⟩,x0⟩:∃ e,e=d.getD k (0,0):=⟨_,rfl⟩;rw [← x0] at R S M Q;clear x0;simp only at R S M;obtain ⟨hx,hy⟩:=M;have xc:(x:Int)<m:=j29_;have xd:(y:Int)<m:=j29_;have H:=Blk.new wr 36 #[.int .i64 (x:Int),.int .i64 (y:Int)];have d0:=H.cell 0;have d1:=H.cell 1;simp only [List.getElem?_toArray,List.getElem?_cons_zero,List.getElem?_cons_succ] at d0 d1;have G:=hid (World.rowIs.alloc o.out (.cells #[.int .i64 (x:Int),.int .i64 (y:Int)] 36));have c1:=G.out.cell hx;have c2:=G.out.cell hy;have N:=hid (h.out.alloc h.out.size (.cells #[.int .i64 (x:Int),.int .i64 (y:Int)] 36));clear H;go_wp2;generalize wr.alloc (.cells #[.int .i64 (x:Int),.int .i64 (y:Int)] 36)=W at *
     generalize wr.heap.size=eb at *
     go_still_tail 11,k29_
     change wpList _ _ _ _ _ W.drew
     go_wp2_with fail
     refine (Yr6 g m (B4_ d k) (B4_ d k x) (B4_ d k y) W.drew G.out T).mono ?_;rintro e w3 ⟨rfl,X,U⟩;have x5:=hid X;have x3:=hid U;clear X U;go_wp2
     go_roundw
     case rel =>
      refine ⟨k+1,y31_,j29_,by rw [Q.out];exact x5.out,N.out.trans ?_⟩;exact ((Below.refl w.heap.size W).drew).grown x3.out N.out.size (fun i u=>by injection u with u;rw [← u];exact F.out)
     case measure=>simp [intOf];omega
    ·have L:k=d.length:=by omega
     have x2:=hid (o.out.congr (f':=compF d) (fun i _=>by unfold B4_;rw [L,List.take_length]));go_wp2
     go_ret2
     exact ⟨g,rfl,x2.out,F.out,h.out⟩
open Go.RowKit Go.Maps
def castL (l:List Nat):List Int:=l.map fun v:Nat=>(v:Int)
def castP (pp:List (List Nat)):List (List Int):=pp.map castL
theorem E7_ (c:List (List Nat)):(castP c).length=c.length:=by simp [castP]
theorem Xc1 {c:List (List Nat)} {i:Nat} {p:List Nat} (h:c[i]?=some p):(castP c)[i]?=some (castL p):=by simp [castP,h]
theorem Yr8 (c:List (List Nat)) (i:Nat) (p:List Nat):castP (c.set i p)=(castP c).set i (castL p):=by simp [castP,List.map_set]
theorem Zi8 (l:List Nat):(castL l).length=l.length:=by simp [castL]
theorem Yd2 (l:List Nat) (k:Nat):castL (l ++ [k])=castL l ++ [(k:Int)]:=by simp [castL]
def S2_ (D:DataW Unit) (f:Nat→Nat) (k:Nat):Prop:=∀ r,r<k→f r=r→D.atKey (.int .i64 (r:Int)) (.lit (.int .i64 0))=.lit (.int .i64 (cnt (rootB f) r:Int))
theorem law3:Keyed Tryz.prog 3 := int_keyed Tryz.underlying3
theorem zero3 (w:World):(zeroValue 3).run Tryz.prog w=.ok (.int .i64 0) w:=k29_
theorem Vv2:(Tryz.prog.info? 26).map (fun i=>(i.zero,i.size,i.bytes))=some (some (.slice none 0 0),1,24):=k29_
theorem Zs0 {D:DataW Unit} {f:Nat→Nat} {k:Nat} (h:S2_ D f k) (d:f k≠k):S2_ D f (k+1):=by
 intro r g c;by_cases e:r=k
 ·subst e;exact absurd c d
 ·exact h r j29_ c
theorem isMap_of {w:World} {b n:Nat} {D:DataW Unit} (h:w.ownsMap Tryz.prog 3 (plainElem Tryz.prog 3) b n D):IsMap D:=by
 obtain ⟨_,_,_,_,_,c⟩:=h;exact ⟨_,c⟩
theorem Yd3 {D:DataW Unit} {f:Nat→Nat} {k:Nat} (h:S2_ D f k) (c:IsMap D):S2_ (D.put (.int .i64 (k:Int)) (.lit (.int .i64 (cnt (rootB f) k:Int)))) f (k+1):=by
 intro r j d;by_cases g:r=k
 ·subst g
  exact atKey_put_same c (show WideAt.IsKeyLit (.int .i64 (r:Int)) from trivial) _ _
 ·rw [atKey_put_other (by intro e;injection e;omega)]
  exact h r j29_ d
def Yr9 (w:World) (pp:List (List Int)) (e:Ending) (w':World):Prop :=
 ∃ v,e=.returned (.tuple #[v,.int .i64 0])∧Rows2 w' w'.heap.size v pp∧Below w.heap.size w w'
theorem Yd4 (m:Nat) (v:Value) (K:List (Nat × Nat)) (w:World) (M:Edges w w.heap.size v (castE K)) (h1:1≤m) (h2:m≤64) (h3:K.length≤4096) (h4:Lies m K) :
  Calls Tryz.prog 112 #[.int .i64 m,v] w (Yr9 w (castP (A7_ m (compF K)))):=by
 have Hr:=hid M;have Hc:=hid (Yd1 m v K w M h1 h2 h3 h4);have zc:(m:Int)≤64:=j29_;have zb:1≤(m:Int):=j29_;have T:=hid (Xk2 K);have S:=hid (Yi2 K);obtain ⟨A,c,rfl,_⟩:=M;clear h4 h3;have z5:=@run_makeMap Tryz.prog
 go_enter Tryz.func112,Tryz.ntmps112
 go_wp2_with fail
 refine Hc.out.mono ?_;rintro e C ⟨g,rfl,y7,hg,xk⟩;generalize compF K=f at *
 have xv:=hid y7;clear Hc y7 Hr;have y5:g<C.heap.size:=World.rowIs.lt xv.out;obtain ⟨d,J⟩:∃ d,d=C.heap.size:=⟨_,rfl⟩;have xw:Hid ((C.alloc (.map #[] 0)).ownsMap Tryz.prog 3 (plainElem (H:=Unit) Tryz.prog 3) d 0 (.map [])):=by
  show World.ownsMap _ _ _ _ _ _ _;rw [J];exact World.ownsMap_made C Tryz.prog 3 _
 have xq:Hid (Below d C (C.alloc (.map #[] 0))):=by
  show Below _ _ _;rw [J];exact (Below.refl _ C).alloc (Nat.le_refl _) _
 have xz:Hid (d+1≤(C.alloc (.map #[] 0)).heap.size):=by
  show _≤_;rw [J];simp
 have yr:Hid (w.heap.size≤d):=by
  show _≤_;rw [J];exact xk.size
 have z0:g<d:=by rw [J];exact y5
 have yk:=hid xk;clear xk y5;go_wp2;rw [← J];have za:=hid J;clear J z5
 go_loopw [8,25] (fun vp vk wr=>∃ (k:Nat) (y:List Value) (D:DataW Unit),vk=.int .i64 k∧k≤m∧wr.ownsRow (d+1) 26 1 vp y.length y∧Fam wr (d+1) y (castP (A7_ k f)) ∧
   wr.ownsMap Tryz.prog 3 (plainElem Tryz.prog 3) d k D∧S2_ D f k∧Below d C wr∧d+1≤wr.heap.size) (fun _ vk _=>m - (intOf vk).toNat)
 case atStart=>exact ⟨0,[],.map [],rfl,Nat.zero_le _,World.ownsRow_nil _ _ _ _,Xi1 _ _,xw.out,fun r M=>absurd M j29_,xq.out,xz.out⟩
 case round =>
  obtain ⟨k,y,D,rfl,hk,xo,y4,y9,x8,y2,yf⟩:=hrel;clear xw xq xz;obtain ⟨vA,vc,rfl⟩:=H4_ xo;have x5:=hid xo;have x3:=hid y4;have xe:=hid y9;have xy:=hid x8;have x1:=hid y2;clear xo y4 y9 x8 y2;by_cases z4:k<m
  ·have hc:wr.cell? ⟨g,k,none⟩=some (.int .i64 (f k:Int)):=(x1.out.cell (p:=⟨g,k,none⟩) (z0)).trans (xv.out.cell z4)
   have xj:Hid (y.length=cnt (rootB f) k):=by
    show _=_;rw [x3.out.1,E7_,Q5_]
   have zg:y.length≤64:=by
    rw [xj.out];have:=E5_ (rootB f) k;omega
   have zh:(y.length:Int)≤64:=j29_;obtain ⟨x,x0⟩:∃ x,x=f k:=⟨_,rfl⟩;rw [← x0] at hc;have zj:x≤k:=by rw [x0];exact T.out k
   have yn:Hid (f x=x):=by
    show f x=x;rw [x0];exact S.out k
   have y1:=hid (WalkArith.wf_i64 (n:=(x:Int)) j29_);have yw:=hid (WalkArith.wf_i64 (n:=(y.length:Int)) j29_);have P:=hid x0;clear x0;by_cases X:x=k
   case' pos =>
    have U:=hid X;have z3:((k:Int)==(x:Int))=true:=by simp [X]
    clear X
    go_wp2_with (at_mapUpdate;refine wpList_mapUpdate_own _ rfl _ _ _ 147 rfl 3 3 law3 Tryz.underlying147 _ d k _ rfl xe.out k31_ _ _ _ rfl rfl (keyOf_int_mk Tryz.underlying3 y1.out) _ [] (plainElem_int Tryz.underlying3 yw.out) ?_)
    intro w2 ya y6;have xx:=hid ya;have R:=hid y6;clear ya y6;have z7:d+1≤w2.heap.size:=Nat.le_trans yf R.out.size;have yj:∀ q,(Value.slice vA y.length vc).ownBlock=some q→d+1≤q:=fun q hq=>(x5.out.lt q hq).1;have x6:=hid yj;clear yj;have xg:=hid (x5.out.kept R.out (by
     rcases hb:(Value.slice vA y.length vc).ownBlock with _ | q
     ·exact .inl rfl
     ·right
      intro F;injection F with F;have:=x6.out q hb;omega))
    have x4:=hid (x3.out.apart R.out j29_);have xr:=hid (x1.out.grown R.out j29_ (fun i s=>by injection s with s;omega));have L:=(Blk.new w2 26 #[.slice none 0 0]).cell 0;simp only [List.getElem?_toArray,List.getElem?_cons_zero] at L;have x2:=hid L;clear L
    go_wp2_with (at_builtin;refine J2_ rfl _ _ 22 26 (.slice none 0 0) 24 rfl Tryz.underlying22 Vv2 rfl (d+1) _ (.slice none 0 0) y rfl (xg.out.alloc _) w2.heap.size rfl x2.out rfl j29_ j29_ j30_ ?_)
    intro z9 o yc W _;obtain ⟨z,hD⟩:∃ z,z=D.put (.int .i64 (x:Int)) (.lit (.int .i64 (y.length:Int))):=⟨_,rfl⟩;have xh:Hid (S2_ z f (k+1)):=by
     show S2_ _ _ _;rw [hD,U.out,xj.out];exact Yd3 xy.out (isMap_of xe.out)
    have xf:Hid (o.ownsMap Tryz.prog 3 (plainElem Tryz.prog 3) d (k+1) z):=by
     show World.ownsMap _ _ _ _ _ _ _;rw [hD];refine (xx.out.alloc _).kept W ?_;intro F;have:=x6.out d F.symm;omega
    have xt:=hid ((xr.out.alloc j29_ (.cells #[.slice none 0 0] 26)).grown W j30_ (fun i s=>by have:=x6.out i s;omega));have z8:d+1≤o.heap.size:=Nat.le_trans j30_ W.size;obtain ⟨h,x9⟩:∃ h,h=y ++ [.slice none 0 0]:=⟨_,rfl⟩;have O:Hid (o.ownsRow (d+1) 26 1 z9 h.length h):=by
     show World.ownsRow _ _ _ _ _ _ _;rw [x9,List.length_append];exact yc
    have Q:Hid (Fam o (d+1) h (castP (Y9_ k f))):=by
     show Fam _ _ _ _;have M:castP (Y9_ k f)=castP (A7_ k f) ++ [[]]:=by
      unfold Y9_;rw [← P.out,if_pos U.out];simp [castP,castL]
     rw [x9,M];refine Fam.more ?_;refine (x4.out.new (World.grownBy_alloc _ (.cells #[.slice none 0 0] 26) none)).kept W ?_;intro v Y;obtain ⟨i,s,rfl⟩:=List.mem_iff_getElem.1 Y;have xn:i<(castP (A7_ k f)).length:=by rw [← x4.out.1];exact s
     exact Zu0 (x4.out.2.1 i _ _ (List.getElem?_eq_getElem s) (List.getElem?_eq_getElem xn)) xg.out y30_
    have Z:0<h.length:=by rw [x9,List.length_append];simp
    obtain ⟨go,V,rfl,z1⟩:=M8_ O.out Z;clear hD x9 Z yc W x2 xr x4 xg x6 xx R z7
   case' neg =>
    have U:=hid X;have z3:((k:Int)==(x:Int))=false:=by rw [beq_eq_false_iff_ne];omega
    clear X;obtain ⟨o,rfl⟩:∃ o,o=wr:=⟨_,rfl⟩;obtain ⟨h,rfl⟩:∃ h,h=y:=⟨_,rfl⟩;obtain ⟨z,rfl⟩:∃ z,z=D:=⟨_,rfl⟩;have xh:Hid (S2_ z f (k+1)):=Zs0 xy.out (by rw [← P.out];exact U.out);have xf:=hid (xe.out.mono (Nat.le_succ k));have xt:=x1;have z8:=yf;have O:=x5;have Q:Hid (Fam o (d+1) h (castP (Y9_ k f))):=by
     show Fam _ _ _ _;unfold Y9_;rw [← P.out,if_neg U.out];exact x3.out
    have Z:0<h.length:=by
     rw [Q.out.1,E7_];exact Nat.lt_of_le_of_lt (Nat.zero_le _) (Zn4 (k:=k) T.out S.out)
    obtain ⟨go,V,Y,z1⟩:=M8_ O.out Z;injection Y with hv1 _ hv2;subst hv1;obtain rfl:V=vc:=hv2.symm;clear Z
   all_goals
    go_wp2_with (at_lookup;refine wpList_lookup_own_int _ rfl _ _ 147 rfl 3 3 .i64 law3 Tryz.underlying147 Tryz.underlying3 (zero3 _) d (k+1) z rfl xf.out _ _ rfl (keyOf_int_mk Tryz.underlying3 y1.out) ?_)
    intro c B _;rw [xh.out x j29_ yn.out] at B;obtain rfl:c=(cnt (rootB f) x:Int):=by injection B with B;injection B with _ B;exact B.symm
    clear B;have yd:cnt (rootB f) x<(Y9_ k f).length:=by rw [P.out];exact Zn4 T.out S.out
    have B:(Y9_ k f)[cnt (rootB f) x]?=some (Q1_ k f x):=by rw [P.out];exact Xk3 T.out S.out
    have ys:Hid (castP (A7_ (k+1) f)=(castP (Y9_ k f)).set (cnt (rootB f) x) (castL (Q1_ k f x) ++ [(k:Int)])):=by
     show _=_;rw [Yq1 T.out S.out,Yr8,Yd2,← P.out]
    generalize cnt (rootB f) x=q at *
    have xp:h.length=(Y9_ k f).length:=by rw [Q.out.1,E7_]
    have z6:q<h.length:=by rw [xp];exact yd
    have zi:h.length≤65:=by
     rw [xp,W0_];have:=E5_ (rootB f) (k+1);omega
    have hu:h[q]?=some h[q]:=List.getElem?_eq_getElem z6;have x7:=Q.out.2.1 q _ _ hu (Xc1 B);have y3:=O.out.cells (g:=go) rfl q _ hu;have yz:o.cell? ⟨go,q,none⟩=some h[q]:=by
     rw [← y3];unfold Addr.add;split<;>simp_all
    clear y3;have x8:(castL (Q1_ k f x)).length≤64:=by
     rw [Zi8];have:=Zb1 k f x;omega
    generalize h[q]=u at *
    have zf:(q:Int)<(h.length:Int):=j29_;obtain ⟨j,xb⟩:∃ j,j=ints (castL (Q1_ k f x)):=⟨_,rfl⟩;have xa:j.length=(castL (Q1_ k f x)).length:=by rw [xb,Z9_]
    rw [← xb,← xa] at x7;rw [← xa] at x8;obtain ⟨uA,uc,rfl⟩:=H4_ x7;have xd:=hid x7;have Hu:=hid hu;have yy:=hid xb;have yx:=hid xa;clear x7 hu B yd xp xj xb xa;have L:=(Blk.new o 3 #[.int .i64 (k:Int)]).cell 0;simp only [List.getElem?_toArray,List.getElem?_cons_zero] at L;have x2:=hid L;clear L;have yh:(o.alloc (.cells #[.int .i64 (k:Int)] 3)).heap.size=o.heap.size+1:=x30_;have xi:=hid yh;have yi:∀ i,(Value.slice uA j.length uc).ownBlock=some i→d+1≤i:=fun i s=>(xd.out.lt i s).1;have y0:=hid yi;clear yh yi
    go_wp2_with (at_builtin;refine J2_ rfl _ _ 26 3 (.int .i64 0) 8 rfl Tryz.underlying26 info3 rfl (d+1) _ (.int .i64 (k:Int)) j rfl (xd.out.alloc _) o.heap.size rfl x2.out rfl j29_ j29_ (by rw [xi.out];omega) ?_)
    intro u5 E xm xl y8;have xc:=hid ((World.grownBy_alloc o (.cells #[.int .i64 (k:Int)] 3) (Value.slice uA j.length uc).ownBlock).trans xl);have yb:(Value.slice (some ⟨go,0,none⟩) h.length V).ownBlock=none∨(Value.slice (some ⟨go,0,none⟩) h.length V).ownBlock≠(Value.slice uA j.length uc).ownBlock:=Zu0 O.out xd.out y30_;have N:=hid (O.out.kept xc.out yb);have zd:E.cell? ⟨go,q,none⟩=some (.slice uA j.length uc):=by rw [N.out.cellAt q j29_];exact Hu.out
    have ze:E.frozen? ⟨go,q,none⟩=false:=N.out.frozenAt q;have yo:=hid xm;have xu:=hid xl;have yp:=hid y8;obtain ⟨G,I,rfl⟩:=H4_ xm;clear xm xl y8 yb yz;have yg:(o.alloc (.cells #[.int .i64 (k:Int)] 3)).heap.size≤E.heap.size:=xu.out.size;have ym:Hid (Fam (E.setCell ⟨go,q,none⟩ (.slice G (j.length+1) I)) (d+1) (h.set q (.slice G (j.length+1) I)) (castP (A7_ (k+1) f))):=by
     show Fam _ _ _ _;rw [ys.out];have hq:ints (castL (Q1_ k f x) ++ [(k:Int)])=j ++ [.int .i64 (k:Int)]:=by rw [X8_,yy.out];rfl
     have h5:Fam E (d+1) (h.set q (.slice G (j.length+1) I)) ((castP (Y9_ k f)).set q (castL (Q1_ k f x) ++ [(k:Int)])):=by
      refine (Q.out.new (World.grownBy_alloc _ (.cells #[.int .i64 (k:Int)] 3) none)).grow Hu.out xu.out ?_ (by rw [xi.out];exact yp.out);rw [hq,List.length_append,← yx.out];exact yo.out
     refine h5.kept (row:=some go) (N.out.stored q _).2 ?_;intro v Y;obtain ⟨i,s,rfl⟩:=List.mem_iff_getElem.1 Y;have xn:i<((castP (Y9_ k f)).set q (castL (Q1_ k f x) ++ [(k:Int)])).length:=by rw [← h5.1];exact s
     exact Zu0 (h5.2.1 i _ _ (List.getElem?_eq_getElem s) (List.getElem?_eq_getElem xn)) N.out y30_
    have yt:Hid ((E.setCell ⟨go,q,none⟩ (.slice G (j.length+1) I)).ownsRow (d+1) 26 1 (.slice (some ⟨go,0,none⟩) h.length V) (h.set q (.slice G (j.length+1) I)).length (h.set q (.slice G (j.length+1) I))):=by
     show World.ownsRow _ _ _ _ _ _ _;rw [List.length_set];exact (N.out.stored q _).1
    have yq:Hid ((E.setCell ⟨go,q,none⟩ (.slice G (j.length+1) I)).ownsMap Tryz.prog 3 (plainElem Tryz.prog 3) d (k+1) z):=by
     refine (xf.out.kept xc.out ?_).kept (row:=some go) (N.out.stored q _).2 ?_
     ·intro F
      have:=y0.out d F.symm;omega
     ·intro F
      injection F with F;omega
    have yl:Hid (Below d C (E.setCell ⟨go,q,none⟩ (.slice G (j.length+1) I))):=by
     refine (xt.out.grown xc.out j29_ (fun i s=>by have:=y0.out i s;omega)).setCell ?_ _;show d≤go;omega
    have ye:d+1≤(E.setCell ⟨go,q,none⟩ (.slice G (j.length+1) I)).heap.size:=by
     have:o.heap.size+1≤E.heap.size:=by rw [← xi.out];exact yg
     simp [World.setCell];omega
    have yv:=hid ye;clear ye yg;go_wp2
    go_roundw
    case rel=>exact ⟨k+1,_,z,y31_,j29_,yt.out,ym.out,yq.out,xh.out,yl.out,yv.out⟩
    case measure=>simp [intOf];omega
  ·have z2:k=m:=by omega
   have yu:=hid (x3.out.rows x5.out);subst z2;go_wp2
   go_ret2
   refine ⟨_,rfl,yu.out,yk.out.trans (x1.out.mono yr.out)⟩
open Go.RowKit
def Vv3 (w:World) (x:Int) (e:Ending) (w':World):Prop:=e=.returned (.int .i64 x)∧Below w.heap.size w w'
def rankN (m:Nat) (ns:List (Nat × Nat)):Int:=(m:Int) - (D5_ m ns:Int)
theorem Ys0 (m:Nat) (v:Value) (d:List (Nat × Nat)) (w:World) (h:Edges w w.heap.size v (castE d)) (p:1≤m) (q:m≤64) (h3:d.length≤4096) (g:Lies m d) :
  Calls Tryz.prog 89 #[.int .i64 m,v] w (Vv3 w (rankN m d)):=by
 have o:=hid (Yd4 m v d w h p q h3 g);have y:(m:Int)≤64:=j29_;have x:1≤(m:Int):=j29_;obtain ⟨A,c,rfl,_⟩:=h;clear g h3
 go_enter Tryz.func89,Tryz.ntmps89
 go_wp2_with fail
 refine o.out.mono ?_;rintro e D ⟨C,rfl,s,r⟩;obtain ⟨u,c1,rfl,_⟩:=s;rw [E7_,Q5_];have z:=E5_ (rootB (compF d)) m;have j:Hid ((m:Int) - (cnt (rootB (compF d)) m:Int)=rankN m d):=rfl;generalize cnt (rootB (compF d)) m=k at *
 have B:(k:Int)≤m:=j29_;go_wp2;go_ret;exact ⟨by rw [← j.out];rfl,r⟩
open Go.RowKit
open Go.RowKit
open Go.RowKit
open Go.RowKit
end Wp
end Go.Proofs.YtnbcaibflhgdoaaGreatDoor
