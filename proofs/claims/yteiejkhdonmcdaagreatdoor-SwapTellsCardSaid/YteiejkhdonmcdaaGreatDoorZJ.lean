/- Graphs in memory, and the program's components, walked. The program's parts and rank of a graph, walked. -/
import Derived.Test.YteiejkhdonmcdaaGreatDoorZP
import Derived.Test.YteiejkhdonmcdaaGreatDoorZA
import Derived.Deep.Slices
import Derived.Deep.OwnRows
import Derived.LoopN
import Derived.StillTailTactics
import Derived.Maps.OwnOps
import Derived.Maps.Views
import Derived.Test.YteiejkhdonmcdaaGreatDoorX0A
import Derived.Test.YteiejkhdonmcdaaGreatDoorX0B
set_option maxHeartbeats 8000000
set_option maxRecDepth 100000
open Go.Lib (hid)
namespace Go.Proofs.YteiejkhdonmcdaaGreatDoor.Wp
private theorem k17_ {P:Prop} (h:P:=by
 have Hr2:=hid (Hfam.out.rows Hown.out)
 subst hke
 go_wp2
 go_ret2
 refine ⟨_,rfl,Hr2.out,Hb1.out.trans (Hbr.out.mono Hmbw.out)⟩):P:=h
private theorem y29_ {P:Prop} (h:P:=by
 go_wp2
 go_ret2
 exact ⟨g,rfl,Hfin.out,Hgs.out,Hbr.out⟩):P:=h
end Go.Proofs.YteiejkhdonmcdaaGreatDoor.Wp
namespace Go.Proofs.YteiejkhdonmcdaaGreatDoor
open Go.RowKit
namespace Wp
def Edges (w:World) (B:Nat) (v:Value) (es:List (Int × Int)):Prop :=
 ∃ A c,v=.slice A es.length c∧(es.length≤c∧c≤maxLen∧(A=none→c=0)) ∧
  ∀ k,k<es.length→∃ ad:Addr,A=some ad∧ad.block<B∧w.cell? (ad.add (k * 2))=some (.int .i64 (es.getD k (0,0)).1)∧w.cell? ⟨(ad.add (k * 2)).block,(ad.add (k * 2)).off+1,none⟩=some (.int .i64 (es.getD k (0,0)).2)
theorem Edges.below {w w':World} {B:Nat} {v:Value} {es:List (Int × Int)} (h:Edges w B v es) (hb:Below B w w'):Edges w' B v es:=by
 obtain ⟨A,c,o,m,g⟩:=h;refine ⟨A,c,o,m,fun k j=>?_⟩;obtain ⟨d,hA,hB,e,f⟩:=g k j;exact ⟨d,hA,hB,(hb.cell q46_).trans e,(hb.cell q46_).trans f⟩
theorem Edges.mono {w:World} {B d:Nat} {v:Value} {es:List (Int × Int)} (h:Edges w B v es) (hB:B≤d):Edges w d v es:=by
 obtain ⟨A,c,p,o,j⟩:=h;refine ⟨A,c,p,o,fun k m=>?_⟩;obtain ⟨e,hA,hb,f,g⟩:=j k m;exact ⟨e,hA,q39_,f,g⟩
theorem Edges.up {w w':World} {v:Value} {es:List (Int × Int)} (h:Edges w w.heap.size v es) (hb:Below w.heap.size w w'):Edges w' w'.heap.size v es:=(h.below hb).mono hb.size
theorem Edges.upA {w:World} {v:Value} {es:List (Int × Int)} (h:Edges w w.heap.size v es) (o:Obj):Edges (w.alloc o) (w.alloc o).heap.size v es:=h.up ((Below.refl _ w).alloc (Nat.le_refl _) o)
open Go.RowKit
def okE (n:Int) (e:Int × Int):Bool:=decide (0≤e.1∧e.1<n∧0≤e.2∧e.2<n)
def sizeB (n:Int) (es:List (Int × Int)):Bool:=decide (1≤n∧n≤64∧es.length≤4096)
def isG (n:Int) (es:List (Int × Int)):Bool:=sizeB n es && es.all (okE n)
theorem Vm8 {n:Int} {es:List (Int × Int)} (h:¬ (1≤n∧n≤64∧es.length≤4096)):isG n es=false:=by
 unfold isG sizeB;rw [decide_eq_false h];rfl
theorem Zc4 {es:List (Int × Int)} {k:Nat} (c:k<es.length):es.getD k (0,0)=es[k]:=by simp [List.getD,c]
theorem isG_bad {n:Int} {es:List (Int × Int)} {k:Nat} (c:k<es.length) (h:okE n (es.getD k (0,0))=false):isG n es=false:=by
 unfold isG;rw [Bool.and_eq_false_iff];right;rw [← Bool.not_eq_true,List.all_eq_true];intro d;have:=d _ (List.getElem_mem c);rw [Zc4 c,this] at h;cases h
def Zi7 (n:Int) (es:List (Int × Int)) (k:Nat):Prop:=∀ j,j<k→okE n (es.getD j (0,0))=true
theorem Zc5 {n:Int} {es:List (Int × Int)} {k:Nat} (h:Zi7 n es k) (d:okE n (es.getD k (0,0))=true):Zi7 n es (k+1):=by
 intro j e;by_cases c:j=k
 ·rw [c];exact d
 ·exact h j q39_
theorem isG_end {n:Int} {es:List (Int × Int)} (c:1≤n∧n≤64∧es.length≤4096) {k:Nat} (d:k=es.length) (h:Zi7 n es k):isG n es=true:=by
 unfold isG sizeB;rw [decide_eq_true c,Bool.true_and,List.all_eq_true];exact y23_
theorem idx0 (x y:Int) (w:World):(Instr.index 55 (.agg #[.int .i64 x,.int .i64 y]) (.int .i64 0)).run Tryz.prog w=.ok (.int .i64 x) w:=x39_
theorem idx1 (x y:Int) (w:World):(Instr.index 55 (.agg #[.int .i64 x,.int .i64 y]) (.int .i64 1)).run Tryz.prog w=.ok (.int .i64 y) w:=x39_
theorem Yr1 (n:Int) (v:Value) (es:List (Int × Int)) (w:World) (M:Edges w w.heap.size v es) (K:1≤n) (L:n≤64) (J:es.length≤4096) :
  Calls Tryz.prog 191 #[.int .i64 n,v] w (Says w (isG n es)):=by
 obtain ⟨A,c,rfl,_,z⟩:=M;have q:=hid z;clear z;have p:=hid (fun k=>@isG_bad n es k);have F:=hid (fun k=>@isG_end n es ⟨K,L,J⟩ k);have R:=idx0;have S:=idx1;have Q:(es.length:Int)≤4096:=q39_
 go_enter Tryz.func191,Tryz.ntmps191
 go_wp2
 go_loopw [22] (fun o wr=>∃ k:Nat,o=.int .i64 k∧k≤es.length∧Below w.heap.size w wr∧Zi7 n es k) (fun o _=>es.length - (intOf o).toNat)
 case atStart=>exact ⟨0,rfl,Nat.zero_le _,Below.refl _ _,fun j I=>absurd I q39_⟩
 case round =>
  obtain ⟨k,rfl,P,E,D⟩:=hrel;have Hwr:=hid E;clear E;have r:=hid D;clear D;by_cases C:k<es.length
  ·obtain ⟨ad,hA,hab,s,u⟩:=q.out k C
   subst hA;have N:wr.cell? (ad.add (k * 2))=some (.int .i64 (es.getD k (0,0)).1):=((Hwr.out).cell x41_).trans s;have O:wr.cell? ⟨(ad.add (k * 2)).block,(ad.add (k * 2)).off+1,none⟩=some (.int .i64 (es.getD k (0,0)).2):=((Hwr.out).cell q47_).trans u;have Hno:=hid (p.out k C);have H:=hid (Zc5 (n:=n) (es:=es) (k:=k) r.out);clear s u p q;have He:Hid (okE n (es.getD k (0,0))=decide (0≤(es.getD k (0,0)).1∧(es.getD k (0,0)).1<n∧0≤(es.getD k (0,0)).2∧(es.getD k (0,0)).2<n)):=rfl;generalize (es.getD k (0,0)).1=x at *
   generalize (es.getD k (0,0)).2=y at *
   by_cases e:0≤x∧x<n
   ·obtain ⟨hx1,hx2⟩:=e
    by_cases h:0≤y∧y<n
    ·obtain ⟨hy1,hy2⟩:=h
     have Hx:Hid (okE n (es.getD k (0,0))=true):=k27_;go_wp2;refine wp_loop_rounds 3 ?_;rw [rounds_succ];go_wp2;rw [rounds_succ];go_wp2;rw [rounds_succ];go_wp2
     go_roundw
     case rel=>exact ⟨k+1,j40_,q39_,(Hwr.out).alloc (Hwr.out).size _,H.out Hx.out⟩
     case measure=>simp [intOf];omega
    ·have Hx:Hid (okE n (es.getD k (0,0))=false):=by
      show okE n (es.getD k (0,0))=false;rw [He.out,decide_eq_false_iff_not];rintro ⟨_,_,h3,d⟩;exact h ⟨h3,d⟩
     have m:y<0∨n≤y:=q39_;clear h;rcases m with m | m
     ·exact y35_
     ·have hy2:0≤y:=by omega
      exact y35_
   ·have Hx:Hid (okE n (es.getD k (0,0))=false):=by
     show okE n (es.getD k (0,0))=false;rw [He.out,decide_eq_false_iff_not];rintro ⟨h3,d,_⟩;exact e ⟨h3,d⟩
    have g:x<0∨n≤x:=q39_;clear e;rcases g with g | g
    ·go_wp2
     refine wp_loop_rounds 3 ?_;exact y9_
    ·have hx2:0≤x:=by omega
     go_wp2;refine wp_loop_rounds 3 ?_;exact y9_
  ·have B:k=es.length:=by omega
   have G:=hid (F.out k B r.out);subst B;go_wp2;go_ret;exact Y7_ G.out rfl Hwr.out
theorem Yb8 (n:Int) (v:Value) (es:List (Int × Int)) (w:World) (d:Edges w w.heap.size v es) (hl:es.length≤1048576) :
  Calls Tryz.prog 191 #[.int .i64 n,v] w (Says w (isG n es)):=by
 by_cases h:1≤n∧n≤64∧es.length≤4096
 ·exact Yr1 n v es w d h.1 h.2.1 h.2.2
 ·have Hno:=hid (Vm8 h)
  have g:=hid d;obtain ⟨A,c,rfl,_⟩:=d;have k:(es.length:Int)≤1048576:=q39_;have h3:n<1∨(1≤n∧64<n)∨(1≤n∧n≤64∧4096<(es.length:Int)):=q39_;clear h;rcases h3 with h3 | ⟨h3,e⟩ | ⟨h3,e,j⟩
  ·exact x11_
  ·exact x11_
  ·exact x11_
theorem Yr2 (n:Int) (v:Value) (es:List (Int × Int)) (w:World) (c:Edges w w.heap.size v es) (hl:es.length≤1048576) {b:Bool} (hb:isG n es=b) :
  Calls Tryz.prog 191 #[.int .i64 n,v] w (Says w b):=by
 subst hb;exact Yb8 n v es w c hl
open Go.RowKit
def Labels (w:World) (g n:Nat) (f:Nat→Nat):Prop:=w.rowIs g 3 n fun i=>.int .i64 (f i:Int)
theorem Labels.congr {w:World} {g n:Nat} {f f':Nat→Nat} (h:Labels w g n f) (e:∀ i,i<n→f i=f' i):Labels w g n f':=World.rowIs.congr h fun i c=>by rw [e i c]
theorem Labels.set {w:World} {g n:Nat} {f:Nat→Nat} (h:Labels w g n f) (i:Nat) (v:Nat):Labels (w.setCell ⟨g,i,none⟩ (.int .i64 (v:Int))) g n (fun j=>if j=i then v else f j) :=
 World.rowIs.congr (World.rowIs.set h i _) fun j _=>z19_
def Vv2 (w:World) (g n:Nat) (f:Nat→Nat) (e:Ending) (w':World):Prop:=e=.returned (.tuple #[])∧Labels w' g n f∧w.grownBy w' (some g)
theorem Yr3 {f f':Nat→Nat} {lo e k:Nat} (h:f'=fun v=>if f v=e then lo else f v) :
  (f k=e→(fun j=>if j=k then lo else if j<k then f' j else f j)=fun j=>if j<k+1 then f' j else f j)∧(f k≠e→(fun j=>if j<k then f' j else f j)=fun j=>if j<k+1 then f' j else f j):=by
 subst h;constructor
 ·intro g
  funext j
  by_cases c:j=k
  ·subst c;simp [g]
  ·by_cases d:j<k
   ·simp [c,d,show j<k+1 by omega]
   ·simp [c,d,show ¬ j<k+1 by omega]
 ·intro g
  funext j
  by_cases c:j=k
  ·subst c;simp [g]
  ·by_cases d:j<k
   ·simp [d,show j<k+1 by omega]
   ·simp [d,show ¬ j<k+1 by omega]
theorem Yi9 (g n:Nat) (f f':Nat→Nat) (a b lo c:Nat) (u:f'=fun v=>if f v=c then lo else f v) (J:lo<c) (E:(lo=a∧c=b)∨(c=a∧lo=b)) (w:World) (s:Labels w g n f) (K:n≤64) :
  Calls Tryz.prog 192 #[.slice (some ⟨g,0,none⟩) n n,.int .i64 a,.int .i64 b] w (Vv2 w g n f'):=by
 have C:=hid s;clear s;have m:=hid (fun k=>Yr3 (k:=k) u);clear u;have L:(n:Int)≤64:=q39_;have M:((lo:Int)==(c:Int))=false:=by rw [beq_eq_false_iff_ne];omega
 have N:((c:Int)==(lo:Int))=false:=by rw [beq_eq_false_iff_ne];omega
 have O:¬ c<lo:=q39_;rcases E with ⟨q,r⟩ | ⟨q,r⟩
 all_goals
  subst q;subst r
  go_enter Tryz.func192,Tryz.ntmps192
  go_wp2
  go_loopw [21] (fun h wr=>∃ k:Nat,h=.int .i64 k∧k≤n∧Labels wr g n (fun j=>if j<k then f' j else f j)∧w.grownBy wr (some g)) (fun h _=>n - (intOf h).toNat)
  case atStart=>exact ⟨0,rfl,Nat.zero_le _,C.out.congr (fun i _=>by simp),World.grownBy.refl _ _⟩
  case round =>
   obtain ⟨k,rfl,I,z,y⟩:=hrel;have d:=hid z;have e:=hid y;clear z y;by_cases G:k<n
   ·have hc:wr.cell? ⟨g,k,none⟩=some (.int .i64 (f k:Int)):=by
     have:=d.out.cell G;simpa using this
    have H:wr.frozen? ⟨g,k,none⟩=false:=d.out.frozen k;have o:=hid (m.out k).1;have p:=hid (m.out k).2;have D:=hid (fun v=>d.out.set k v);generalize f k=x at hc o p;by_cases B:x=c
    ·subst B
     go_wp2
     go_roundw
     case rel =>
      refine ⟨k+1,j40_,q39_,?_,N3_ e.out (.inl rfl) _⟩;rw [← o.out rfl];exact D.out _
     case measure=>simp [intOf];omega
    ·have P:((x:Int)==(c:Int))=false:=by rw [beq_eq_false_iff_ne];omega
     go_wp2
     go_roundw
     case rel=>exact ⟨k+1,j40_,q39_,by rw [← p.out B];exact d.out,e.out⟩
     case measure=>simp [intOf];omega
   ·have F:k=n:=by omega
    subst F;go_wp2
    go_end0
    exact ⟨rfl,d.out.congr (fun i c=>by simp [c]),e.out⟩
theorem Xq4 (g n:Nat) (f:Nat→Nat) (a b:Nat) (w:World) (d:Labels w g n f) (e:n≤64) :
  Calls Tryz.prog 192 #[.slice (some ⟨g,0,none⟩) n n,.int .i64 a,.int .i64 b] w (Vv2 w g n (R2_ f a b)):=by
 rcases Nat.lt_trichotomy a b with c | c | c
 ·refine Yi9 g n f _ a b a b ?_ c (.inl ⟨rfl,rfl⟩) w d e
  funext v
  unfold R2_;rw [Nat.max_eq_right q39_,Nat.min_eq_left q39_]
 ·subst c
  rw [Zi4];have h:=hid d;clear d;have j:(n:Int)≤64:=q39_
  go_enter Tryz.func192,Tryz.ntmps192
  go_wp2;refine bodyPost_ret (results_none rfl _ _ _) rfl ?_;exact ⟨rfl,h.out,World.grownBy.refl _ _⟩
 ·refine Yi9 g n f _ a b b a ?_ c (.inr ⟨rfl,rfl⟩) w d e
  funext v
  unfold R2_;rw [Nat.max_eq_left q39_,Nat.min_eq_right q39_]
open Go.RowKit
def castE (ns:List (Nat × Nat)):List (Int × Int):=ns.map fun e=>((e.1:Int),(e.2:Int))
theorem X4_ (c:List (Nat × Nat)):(castE c).length=c.length:=by simp [castE]
theorem G8_ (c:List (Nat × Nat)) (k:Nat):(castE c).getD k (0,0)=(((c.getD k (0,0)).1:Int),((c.getD k (0,0)).2:Int)):=by
 unfold castE;rw [List.getD_eq_getElem?_getD,List.getD_eq_getElem?_getD,List.getElem?_map];rcases c[k]? with _ | e<;>rfl
theorem Vv3 {m:Nat} {c:List (Nat × Nat)} (h:1≤m) (j:m≤64) (h3:c.length≤4096) (d:Lies m c):isG m (castE c)=true:=by
 unfold isG sizeB;rw [Bool.and_eq_true,decide_eq_true_iff,List.all_eq_true];refine ⟨⟨q39_,q39_,by rw [X4_];exact h3⟩,fun e f=>?_⟩;obtain ⟨x,g,rfl⟩:=List.mem_map.1 f;have:=d x g;simp only [okE,decide_eq_true_iff];omega
def Zc6 (w:World) (m:Nat) (f:Nat→Nat) (e:Ending) (w':World):Prop :=
 ∃ g,e=.returned (.tuple #[.slice (some ⟨g,0,none⟩) m m,.int .i64 0])∧Labels w' g m f∧w.heap.size≤g∧Below w.heap.size w w'
def E7_ (ns:List (Nat × Nat)) (k:Nat):Nat→Nat:=compF (ns.take k)
theorem Zo9 {c:List (Nat × Nat)} {k:Nat} (d:k<c.length):E7_ c (k+1)=C8_ (E7_ c k) (c.getD k (0,0)):=by
 unfold E7_;rw [List.take_succ_eq_append_getElem d,Zb5];simp [List.getD,d]
theorem Zw8 {m:Nat} {c:List (Nat × Nat)} (h:Lies m c) {k:Nat} (d:k<c.length):(c.getD k (0,0)).1<m∧(c.getD k (0,0)).2<m:=by
 have:=h c[k] (List.getElem_mem d);simpa [List.getD,d] using this
theorem Yr4 (m:Nat) (v:Value) (d:List (Nat × Nat)) (w:World) (O:Edges w w.heap.size v (castE d)) (h1:1≤m) (K:m≤64) (h3:d.length≤4096) (z:Lies m d) :
  Calls Tryz.prog 170 #[.int .i64 m,v] w (Zc6 w m (compF d)):=by
 have Y:=hid O;have S:=hid (Vv3 h1 K h3 z);have X:=hid z;have hl:(castE d).length≤1048576:=by rw [X4_];omega
 obtain ⟨A,c,P,_,B⟩:=O;rw [X4_] at P B;subst P;have F:=hid B;clear B z;have x2:(m:Int)≤64:=q39_;have x1:1≤(m:Int):=q39_;have x3:(d.length:Int)≤4096:=q39_;have x0:=fun W=>run_make_row' 26 3 (.int .i64 0) 8 Tryz.underlying26 info3 rfl .i64 .i64 m q39_ q39_ W
 go_enter Tryz.func170,Tryz.ntmps170
 go_wp2_with fail
 refine (Yr2 m _ (castE d) w Y.out hl S.out).mono ?_;rintro e w1 ⟨rfl,r⟩;obtain ⟨g,hg⟩:∃ g,g=w1.heap.size:=⟨_,rfl⟩;have Hgs:Hid (w.heap.size≤g):=by
  show _≤_;rw [hg];exact r.size
 have U:Hid (Labels (w1.alloc (.cells (madeCells #[.int .i64 0] m) 3)) g m (fun j=>if j<0 then j else 0)):=q22_;have R:Hid (Below w.heap.size w (w1.alloc (.cells (madeCells #[.int .i64 0] m) 3))):=r.alloc r.size _;clear r;go_wp2;rw [← hg];clear hg x0
 go_loopw [18] (fun h wr=>∃ k:Nat,h=.int .i64 k∧k≤m∧Labels wr g m (fun j=>if j<k then j else 0)∧Below w.heap.size w wr) (fun h _=>m - (intOf h).toNat)
 case atStart=>exact ⟨0,rfl,Nat.zero_le _,U.out,R.out⟩
 case round =>
  obtain ⟨k,rfl,M,q,o⟩:=hrel;have Hlab:=hid q;have Hbr:=hid o;clear q o;by_cases hlt:k<m
  ·exact j5_
  ·have C:k=m:=by omega
   have G:=hid (Hlab.out.congr (f':=E7_ d 0) (fun i hi=>by simp [E7_,compF,show i<k by omega]));clear Hlab;go_wp2
   go_loopw [28] (fun h wr=>∃ k:Nat,h=.int .i64 k∧k≤d.length∧Labels wr g m (E7_ d k)∧Below w.heap.size w wr) (fun h _=>d.length - (intOf h).toNat)
   case atStart=>exact ⟨0,rfl,Nat.zero_le _,G.out,Hbr.out⟩
   case round =>
    clear G Hbr C hlt M;obtain ⟨k,rfl,M,q,o⟩:=hrel;have Hlab:=hid q;have Hbr:=hid o;clear q o;by_cases hlt:k<d.length
    ·obtain ⟨ad,hA,hab,q1,q2⟩:=F.out k hlt
     subst hA;rw [G8_] at q1 q2;simp only at q1 q2;have I:=(Hbr.out.cell (p:=ad.add (k * 2)) x41_).trans q1;have J:=(Hbr.out.cell (p:=⟨(ad.add (k * 2)).block,(ad.add (k * 2)).off+1,none⟩) q47_).trans q2;clear q1 q2 F;have D:=Zw8 X.out hlt;have H:=hid (Zo9 hlt);obtain ⟨⟨x,y⟩,Q⟩:∃ e,e=d.getD k (0,0):=⟨_,rfl⟩;rw [← Q] at I J D H;clear Q;simp only at I J D;obtain ⟨hx,hy⟩:=D;have x4:(x:Int)<m:=q39_;have x5:(y:Int)<m:=q39_;have u:=Blk.new wr 55 #[.int .i64 (x:Int),.int .i64 (y:Int)];have Z:=u.cell 0;have d1:=u.cell 1;simp only [List.getElem?_toArray,List.getElem?_cons_zero,List.getElem?_cons_succ] at Z d1;have s:=hid (World.rowIs.alloc Hlab.out (.cells #[.int .i64 (x:Int),.int .i64 (y:Int)] 55));have c1:=s.out.cell hx;have c2:=s.out.cell hy;have E:=hid (Hbr.out.alloc Hbr.out.size (.cells #[.int .i64 (x:Int),.int .i64 (y:Int)] 55));clear u;go_wp2;generalize wr.alloc (.cells #[.int .i64 (x:Int),.int .i64 (y:Int)] 55)=W at *
     generalize wr.heap.size=eb at *
     go_still_tail 11,x39_
     change wpList _ _ _ _ _ W.drew
     go_wp2_with fail
     refine (Xq4 g m (E7_ d k) (E7_ d k x) (E7_ d k y) W.drew s.out K).mono ?_;rintro e w3 ⟨rfl,N,L⟩;have V:=hid N;have T:=hid L;clear N L;go_wp2
     go_roundw
     case rel =>
      refine ⟨k+1,j40_,q39_,by rw [H.out];exact V.out,E.out.trans ?_⟩;exact ((Below.refl w.heap.size W).drew).grown T.out E.out.size (fun i hi=>by injection hi with hi;rw [← hi];exact Hgs.out)
     case measure=>simp [intOf];omega
    ·have C:k=d.length:=by omega
     have Hfin:=hid (Hlab.out.congr (f':=compF d) (fun i _=>by unfold E7_;rw [C,List.take_length]));exact y29_
open Go.RowKit Go.Maps
def castL (l:List Nat):List Int:=l.map fun v:Nat=>(v:Int)
def castP (pp:List (List Nat)):List (List Int):=pp.map castL
theorem C0_ (pp:List (List Nat)):(castP pp).length=pp.length:=by simp [castP]
theorem Xo1 {pp:List (List Nat)} {i:Nat} {p:List Nat} (h:pp[i]?=some p):(castP pp)[i]?=some (castL p):=by simp [castP,h]
theorem Xq5 (pp:List (List Nat)) (i:Nat) (p:List Nat):castP (pp.set i p)=(castP pp).set i (castL p):=by simp [castP,List.map_set]
theorem Zx6 (l:List Nat):(castL l).length=l.length:=by simp [castL]
theorem Zi8 (l:List Nat) (k:Nat):castL (l ++ [k])=castL l ++ [(k:Int)]:=by simp [castL]
def Zx7 (D:DataW Unit) (f:Nat→Nat) (k:Nat):Prop:=∀ r,r<k→f r=r→D.atKey (.int .i64 (r:Int)) (.lit (.int .i64 0))=.lit (.int .i64 (cnt (rootB f) r:Int))
theorem law3:Keyed Tryz.prog 3 := int_keyed Tryz.underlying3
theorem zero3 (w:World):(zeroValue 3).run Tryz.prog w=.ok (.int .i64 0) w:=x39_
theorem Zw9:(Tryz.prog.info? 26).map (fun i=>(i.zero,i.size,i.bytes))=some (some (.slice none 0 0),1,24):=x39_
theorem Yb9 {D:DataW Unit} {f:Nat→Nat} {k:Nat} (h:Zx7 D f k) (d:f k≠k):Zx7 D f (k+1):=by
 intro r g c;by_cases e:r=k
 ·subst e;exact absurd c d
 ·exact h r q39_ c
theorem isMap_of {w:World} {b n:Nat} {D:DataW Unit} (h:w.ownsMap Tryz.prog 3 (plainElem Tryz.prog 3) b n D):IsMap D:=by
 obtain ⟨_,_,_,_,_,c⟩:=h;exact ⟨_,c⟩
theorem Yr5 {D:DataW Unit} {f:Nat→Nat} {k:Nat} (h:Zx7 D f k) (c:IsMap D):Zx7 (D.put (.int .i64 (k:Int)) (.lit (.int .i64 (cnt (rootB f) k:Int)))) f (k+1):=by
 intro r j d;by_cases g:r=k
 ·subst g
  exact atKey_put_same c (show WideAt.IsKeyLit (.int .i64 (r:Int)) from trivial) _ _
 ·rw [atKey_put_other (by intro e;injection e;omega)]
  exact h r q39_ d
def Yz0 (w:World) (pp:List (List Int)) (e:Ending) (w':World):Prop :=
 ∃ v,e=.returned (.tuple #[v,.int .i64 0])∧Rows2 w' w'.heap.size v pp∧Below w.heap.size w w'
def Vt4 (w:World) (e:Ending) (w':World):Prop:=e=.returned (.tuple #[.slice none 0 0,.int .i64 1])∧Below w.heap.size w w'
theorem Yr6 (m:Nat) (v:Value) (I:List (Nat × Nat)) (w:World) (K:Edges w w.heap.size v (castE I)) (h1:1≤m) (h2:m≤64) (h3:I.length≤4096) (h4:Lies m I) :
  Calls Tryz.prog 144 #[.int .i64 m,v] w (Yz0 w (castP (C9_ m (compF I)))):=by
 have Hr:=hid K;have Hc:=hid (Yr4 m v I w K h1 h2 h3 h4);have z0:(m:Int)≤64:=q39_;have yz:1≤(m:Int):=q39_;have Q:=hid (Xj1 I);have P:=hid (Zw1 I);obtain ⟨A,c,rfl,_⟩:=K;clear h4 h3;have yt:=@run_makeMap Tryz.prog
 go_enter Tryz.func144,Tryz.ntmps144
 go_wp2_with fail
 refine Hc.out.mono ?_;rintro e w1 ⟨g,rfl,xz,hg,xc⟩;generalize compF I=f at *
 have xm:=hid xz;clear Hc xz Hr;have xx:g<w1.heap.size:=World.rowIs.lt xm.out;obtain ⟨d,hmb⟩:∃ d,d=w1.heap.size:=⟨_,rfl⟩;have xn:Hid ((w1.alloc (.map #[] 0)).ownsMap Tryz.prog 3 (plainElem (H:=Unit) Tryz.prog 3) d 0 (.map [])):=by
  show World.ownsMap _ _ _ _ _ _ _;rw [hmb];exact World.ownsMap_made w1 Tryz.prog 3 _
 have xi:Hid (Below d w1 (w1.alloc (.map #[] 0))):=z29_;have xq:Hid (d+1≤(w1.alloc (.map #[] 0)).heap.size):=by
  show _≤_;rw [hmb];simp
 have Hmbw:Hid (w.heap.size≤d):=by
  show _≤_;rw [hmb];exact xc.size
 have yp:g<d:=by rw [hmb];exact xx
 have Hb1:=hid xc;clear xc xx;go_wp2;rw [← hmb];have yy:=hid hmb;clear hmb yt
 go_loopw [8,25] (fun vp vk wr=>∃ (k:Nat) (y:List Value) (D:DataW Unit),vk=.int .i64 k∧k≤m∧wr.ownsRow (d+1) 26 1 vp y.length y∧Fam wr (d+1) y (castP (C9_ k f)) ∧
   wr.ownsMap Tryz.prog 3 (plainElem Tryz.prog 3) d k D∧Zx7 D f k∧Below d w1 wr∧d+1≤wr.heap.size) (fun _ vk _=>m - (intOf vk).toNat)
 case atStart=>exact ⟨0,[],.map [],rfl,Nat.zero_le _,World.ownsRow_nil _ _ _ _,Yq3 _ _,xn.out,fun r K=>absurd K q39_,xi.out,xq.out⟩
 case round =>
  obtain ⟨k,y,D,rfl,hk,xg,xw,y1,x1,xu,y7⟩:=hrel;clear xn xi xq;obtain ⟨vA,vc,rfl⟩:=Q1_ xg;have Hown:=hid xg;have Hfam:=hid xw;have x7:=hid y1;have xp:=hid x1;have Hbr:=hid xu;clear xg xw y1 x1 xu;by_cases ys:k<m
  ·have hc:wr.cell? ⟨g,k,none⟩=some (.int .i64 (f k:Int)):=(Hbr.out.cell (p:=⟨g,k,none⟩) (yp)).trans (xm.out.cell ys)
   have xb:Hid (y.length=cnt (rootB f) k):=by
    show _=_;rw [Hfam.out.1,C0_,A2_]
   have z4:y.length≤64:=by
    rw [xb.out];have:=B8_ (rootB f) k;omega
   have z5:(y.length:Int)≤64:=q39_;obtain ⟨x,W⟩:∃ x,x=f k:=⟨_,rfl⟩;rw [← W] at hc;have z7:x≤k:=by rw [W];exact Q.out k
   have ye:Hid (f x=x):=by
    show f x=x;rw [W];exact P.out k
   have xt:=hid (WalkArith.wf_i64 (n:=(x:Int)) q39_);have yl:=hid (WalkArith.wf_i64 (n:=(y.length:Int)) q39_);have Hxe:=hid W;clear W;by_cases T:x=k
   case' pos =>
    have Hroot:=hid T;have yr:((k:Int)==(x:Int))=true:=by simp [T]
    clear T
    go_wp2_with (at_mapUpdate;refine wpList_mapUpdate_own _ rfl _ _ _ 163 rfl 3 3 law3 Tryz.underlying163 _ d k _ rfl x7.out z40_ _ _ _ rfl rfl (keyOf_int_mk Tryz.underlying3 xt.out) _ [] (plainElem_int Tryz.underlying3 yl.out) ?_)
    intro w2 y2 xy;have xo:=hid y2;have O:=hid xy;clear y2 xy;have yv:d+1≤w2.heap.size:=Nat.le_trans y7 O.out.size;have yb:∀ q,(Value.slice vA y.length vc).ownBlock=some q→d+1≤q:=fun q hq=>(Hown.out.lt q hq).1;have Z:=hid yb;clear yb;have x9:=hid (Hown.out.kept O.out (by
     rcases hb:(Value.slice vA y.length vc).ownBlock with _ | q
     ·exact .inl rfl
     ·right
      intro E;injection E with E;have:=Z.out q hb;omega))
    have Y:=hid (Hfam.out.apart O.out q39_);have xj:=hid (Hbr.out.grown O.out q39_ (fun i s=>by injection s with s;omega));have J:=(Blk.new w2 26 #[.slice none 0 0]).cell 0;simp only [List.getElem?_toArray,List.getElem?_cons_zero] at J;have X:=hid J;clear J
    go_wp2_with (at_builtin;refine J2_ rfl _ _ 22 26 (.slice none 0 0) 24 rfl Tryz.underlying22 Zw9 rfl (d+1) _ (.slice none 0 0) y rfl (x9.out.alloc _) w2.heap.size rfl X.out rfl q39_ q39_ k39_ ?_)
    intro yx o y4 S _;obtain ⟨z,hD⟩:∃ z,z=D.put (.int .i64 (x:Int)) (.lit (.int .i64 (y.length:Int))):=⟨_,rfl⟩;have xa:Hid (Zx7 z f (k+1)):=by
     show Zx7 _ _ _;rw [hD,Hroot.out,xb.out];exact Yr5 xp.out (isMap_of x7.out)
    have x8:Hid (o.ownsMap Tryz.prog 3 (plainElem Tryz.prog 3) d (k+1) z):=by
     show World.ownsMap _ _ _ _ _ _ _;rw [hD];refine (xo.out.alloc _).kept S ?_;intro E;have:=Z.out d E.symm;omega
    have xk:=hid ((xj.out.alloc q39_ (.cells #[.slice none 0 0] 26)).grown S k39_ (fun i s=>by have:=Z.out i s;omega));have yw:d+1≤o.heap.size:=Nat.le_trans k39_ S.size;obtain ⟨h,x2⟩:∃ h,h=y ++ [.slice none 0 0]:=⟨_,rfl⟩;have M:Hid (o.ownsRow (d+1) 26 1 yx h.length h):=by
     show World.ownsRow _ _ _ _ _ _ _;rw [x2,List.length_append];exact y4
    have N:Hid (Fam o (d+1) h (castP (X7_ k f))):=by
     show Fam _ _ _ _;have K:castP (X7_ k f)=castP (C9_ k f) ++ [[]]:=by
      unfold X7_;rw [← Hxe.out,if_pos Hroot.out];simp [castP,castL]
     rw [x2,K];refine Fam.more ?_;refine (Y.out.new (World.grownBy_alloc _ (.cells #[.slice none 0 0] 26) none)).kept S ?_;intro v U;obtain ⟨i,s,rfl⟩:=List.mem_iff_getElem.1 U;have xf:i<(castP (C9_ k f)).length:=by rw [← Y.out.1];exact s
     exact Zx1 (Y.out.2.1 i _ _ (List.getElem?_eq_getElem s) (List.getElem?_eq_getElem xf)) x9.out x40_
    have V:0<h.length:=by rw [x2,List.length_append];simp
    obtain ⟨go,R,rfl,yq⟩:=I2_ M.out V;clear hD x2 V y4 S X xj Y x9 Z xo O yv
   case' neg =>
    have Hroot:=hid T;have yr:((k:Int)==(x:Int))=false:=by rw [beq_eq_false_iff_ne];omega
    clear T;obtain ⟨o,rfl⟩:∃ o,o=wr:=⟨_,rfl⟩;obtain ⟨h,rfl⟩:∃ h,h=y:=⟨_,rfl⟩;obtain ⟨z,rfl⟩:∃ z,z=D:=⟨_,rfl⟩;have xa:Hid (Zx7 z f (k+1)):=Yb9 xp.out j49_;have x8:=hid (x7.out.mono (Nat.le_succ k));have xk:=Hbr;have yw:=y7;have M:=Hown;have N:Hid (Fam o (d+1) h (castP (X7_ k f))):=by
     show Fam _ _ _ _;unfold X7_;rw [← Hxe.out,if_neg Hroot.out];exact Hfam.out
    have V:0<h.length:=by
     rw [N.out.1,C0_];exact Nat.lt_of_le_of_lt (Nat.zero_le _) (Ya9 (k:=k) Q.out P.out)
    obtain ⟨go,R,U,yq⟩:=I2_ M.out V;injection U with hv1 _ hv2;subst hv1;obtain rfl:R=vc:=hv2.symm;clear V
   all_goals
    go_wp2_with (at_lookup;refine wpList_lookup_own_int _ rfl _ _ 163 rfl 3 3 .i64 law3 Tryz.underlying163 Tryz.underlying3 (zero3 _) d (k+1) z rfl x8.out _ _ rfl (keyOf_int_mk Tryz.underlying3 xt.out) ?_)
    intro c B _;rw [xa.out x q39_ ye.out] at B;obtain rfl:c=(cnt (rootB f) x:Int):=by injection B with B;injection B with _ B;exact B.symm
    clear B;have y5:cnt (rootB f) x<(X7_ k f).length:=by rw [Hxe.out];exact Ya9 Q.out P.out
    have B:(X7_ k f)[cnt (rootB f) x]?=some (X1_ k f x):=by rw [Hxe.out];exact Vc5 Q.out P.out
    have yi:Hid (castP (C9_ (k+1) f)=(castP (X7_ k f)).set (cnt (rootB f) x) (castL (X1_ k f x) ++ [(k:Int)])):=by
     show _=_;rw [Yp2 Q.out P.out,Xq5,Zi8,← Hxe.out]
    generalize cnt (rootB f) x=q at *
    have xh:h.length=(X7_ k f).length:=by rw [N.out.1,C0_]
    have yu:q<h.length:=by rw [xh];exact y5
    have z6:h.length≤65:=by
     rw [xh,Zb7];have:=B8_ (rootB f) (k+1);omega
    have hu:h[q]?=some h[q]:=List.getElem?_eq_getElem yu;have x0:=N.out.2.1 q _ _ hu (Xo1 B);have xv:=M.out.cells (g:=go) rfl q _ hu;have yo:o.cell? ⟨go,q,none⟩=some h[q]:=by
     rw [← xv];unfold Addr.add;split<;>simp_all
    clear xv;have x1:(castL (X1_ k f x)).length≤64:=by
     rw [Zx6];have:=T5_ k f x;omega
    generalize h[q]=u at *
    have z3:(q:Int)<(h.length:Int):=q39_;obtain ⟨j,x4⟩:∃ j,j=ints (castL (X1_ k f x)):=⟨_,rfl⟩;have x3:j.length=(castL (X1_ k f x)).length:=by rw [x4,Q8_]
    rw [← x4,← x3] at x0;rw [← x3] at x1;obtain ⟨uA,uc,rfl⟩:=Q1_ x0;have x6:=hid x0;have Hu:=hid hu;have yn:=hid x4;have ym:=hid x3;clear x0 hu B y5 xh xb x4 x3;have J:=(Blk.new o 3 #[.int .i64 (k:Int)]).cell 0;simp only [List.getElem?_toArray,List.getElem?_cons_zero] at J;have X:=hid J;clear J;have y9:(o.alloc (.cells #[.int .i64 (k:Int)] 3)).heap.size=o.heap.size+1:=j39_;have Hsz3:=hid y9;have ya:∀ i,(Value.slice uA j.length uc).ownBlock=some i→d+1≤i:=fun i s=>(x6.out.lt i s).1;have xr:=hid ya;clear y9 ya
    go_wp2_with (at_builtin;refine J2_ rfl _ _ 26 3 (.int .i64 0) 8 rfl Tryz.underlying26 info3 rfl (d+1) _ (.int .i64 (k:Int)) j rfl (x6.out.alloc _) o.heap.size rfl X.out rfl q39_ q39_ x45_ ?_)
    intro u5 C xe xd y0;have x5:=hid ((World.grownBy_alloc o (.cells #[.int .i64 (k:Int)] 3) (Value.slice uA j.length uc).ownBlock).trans xd);have y3:(Value.slice (some ⟨go,0,none⟩) h.length R).ownBlock=none∨(Value.slice (some ⟨go,0,none⟩) h.length R).ownBlock≠(Value.slice uA j.length uc).ownBlock:=Zx1 M.out x6.out x40_;have L:=hid (M.out.kept x5.out y3);have z1:C.cell? ⟨go,q,none⟩=some (.slice uA j.length uc):=by rw [L.out.cellAt q q39_];exact Hu.out
    have z2:C.frozen? ⟨go,q,none⟩=false:=L.out.frozenAt q;have yf:=hid xe;have xl:=hid xd;have yg:=hid y0;obtain ⟨F,G,rfl⟩:=Q1_ xe;clear xe xd y0 y3 yo;have y8:(o.alloc (.cells #[.int .i64 (k:Int)] 3)).heap.size≤C.heap.size:=xl.out.size;have yd:Hid (Fam (C.setCell ⟨go,q,none⟩ (.slice F (j.length+1) G)) (d+1) (h.set q (.slice F (j.length+1) G)) (castP (C9_ (k+1) f))):=by
     show Fam _ _ _ _;rw [yi.out];have hq:ints (castL (X1_ k f x) ++ [(k:Int)])=j ++ [.int .i64 (k:Int)]:=by rw [J4_,yn.out];rfl
     have h5:Fam C (d+1) (h.set q (.slice F (j.length+1) G)) ((castP (X7_ k f)).set q (castL (X1_ k f x) ++ [(k:Int)])):=by
      refine (N.out.new (World.grownBy_alloc _ (.cells #[.int .i64 (k:Int)] 3) none)).grow Hu.out xl.out ?_ (by rw [Hsz3.out];exact yg.out);rw [hq,List.length_append,← ym.out];exact yf.out
     refine h5.kept (row:=some go) (L.out.stored q _).2 ?_;intro v U;obtain ⟨i,s,rfl⟩:=List.mem_iff_getElem.1 U;have xf:i<((castP (X7_ k f)).set q (castL (X1_ k f x) ++ [(k:Int)])).length:=by rw [← h5.1];exact s
     exact Zx1 (h5.2.1 i _ _ (List.getElem?_eq_getElem s) (List.getElem?_eq_getElem xf)) L.out x40_
    have yj:Hid ((C.setCell ⟨go,q,none⟩ (.slice F (j.length+1) G)).ownsRow (d+1) 26 1 (.slice (some ⟨go,0,none⟩) h.length R) (h.set q (.slice F (j.length+1) G)).length (h.set q (.slice F (j.length+1) G))):=by
     show World.ownsRow _ _ _ _ _ _ _;rw [List.length_set];exact (L.out.stored q _).1
    have yh:Hid ((C.setCell ⟨go,q,none⟩ (.slice F (j.length+1) G)).ownsMap Tryz.prog 3 (plainElem Tryz.prog 3) d (k+1) z):=by
     refine (x8.out.kept x5.out ?_).kept (row:=some go) (L.out.stored q _).2 ?_
     ·intro E
      have:=xr.out d E.symm;omega
     ·intro E
      injection E with E;omega
    have yc:Hid (Below d w1 (C.setCell ⟨go,q,none⟩ (.slice F (j.length+1) G))):=by
     refine (xk.out.grown x5.out q39_ (fun i s=>by have:=xr.out i s;omega)).setCell ?_ _;show d≤go;omega
    have y6:d+1≤(C.setCell ⟨go,q,none⟩ (.slice F (j.length+1) G)).heap.size:=by
     have:o.heap.size+1≤C.heap.size:=by rw [← Hsz3.out];exact y8
     simp [World.setCell];omega
    have yk:=hid y6;clear y6 y8;go_wp2
    go_roundw
    case rel=>exact ⟨k+1,_,z,j40_,q39_,yj.out,yd.out,yh.out,xa.out,yc.out,yk.out⟩
    case measure=>simp [intOf];omega
  ·have hke:k=m:=by omega
   exact k17_
open Go.RowKit
def Vv4 (w:World) (x:Int) (e:Ending) (w':World):Prop:=e=.returned (.int .i64 x)∧Below w.heap.size w w'
def rankN (m:Nat) (ns:List (Nat × Nat)):Int:=(m:Int) - (H6_ m ns:Int)
theorem Xq6 (m:Nat) (v:Value) (d:List (Nat × Nat)) (w:World) (h:Edges w w.heap.size v (castE d)) (p:1≤m) (q:m≤64) (h3:d.length≤4096) (g:Lies m d) :
  Calls Tryz.prog 114 #[.int .i64 m,v] w (Vv4 w (rankN m d)):=by
 have o:=hid (Yr6 m v d w h p q h3 g);have y:(m:Int)≤64:=q39_;have x:1≤(m:Int):=q39_;obtain ⟨A,c,rfl,_⟩:=h;clear g h3
 go_enter Tryz.func114,Tryz.ntmps114
 go_wp2_with fail
 refine o.out.mono ?_;rintro e D ⟨C,rfl,s,r⟩;obtain ⟨u,c1,rfl,_⟩:=s;rw [C0_,A2_];have z:=B8_ (rootB (compF d)) m;have j:Hid ((m:Int) - (cnt (rootB (compF d)) m:Int)=rankN m d):=rfl;generalize cnt (rootB (compF d)) m=k at *
 have B:(k:Int)≤m:=q39_;go_wp2;go_ret;exact ⟨by rw [← j.out];rfl,r⟩
end Wp
end Go.Proofs.YteiejkhdonmcdaaGreatDoor
