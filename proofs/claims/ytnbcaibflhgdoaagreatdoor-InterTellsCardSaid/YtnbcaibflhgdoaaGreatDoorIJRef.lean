/- Graphs in memory, and the program's components, walked. The program's parts and rank of a graph, walked. -/
import Derived.Test.YtnbcaibflhgdoaaGreatDoorZP
import Derived.Test.YtnbcaibflhgdoaaGreatDoorZA
import Derived.Deep.Slices
import Derived.Deep.OwnRows
import Derived.LoopN
import Derived.StillTailTactics
import Derived.Maps.OwnOps
import Derived.Maps.Views
import Derived.Test.YtnbcaibflhgdoaaGreatDoorX0A
import Derived.Test.YtnbcaibflhgdoaaGreatDoorX0B
set_option maxHeartbeats 8000000
set_option maxRecDepth 100000
open Go.Lib (hid)
namespace Go.Proofs.YtnbcaibflhgdoaaGreatDoor.Wp
private theorem q17_ {P:Prop} (h:P:=by
 have Hr2:=hid (Hfam.out.rows Hown.out)
 subst hke
 go_wp2
 go_ret2
 refine ⟨_,rfl,Hr2.out,Hb1.out.trans (Hbr.out.mono Hmbw.out)⟩):P:=h
private theorem k28_ {P:Prop} (h:P:=by
 go_wp2
 go_ret2
 exact ⟨g,rfl,Hfin.out,Hgs.out,Hbr.out⟩):P:=h
end Go.Proofs.YtnbcaibflhgdoaaGreatDoor.Wp
namespace Go.Proofs.YtnbcaibflhgdoaaGreatDoor
open Go.RowKit
namespace Wp
def Edges (w:World) (B:Nat) (v:Value) (es:List (Int × Int)):Prop :=
 ∃ A c,v=.slice A es.length c∧(es.length≤c∧c≤maxLen∧(A=none→c=0)) ∧
  ∀ k,k<es.length→∃ ad:Addr,A=some ad∧ad.block<B∧w.cell? (ad.add (k * 2))=some (.int .i64 (es.getD k (0,0)).1)∧w.cell? ⟨(ad.add (k * 2)).block,(ad.add (k * 2)).off+1,none⟩=some (.int .i64 (es.getD k (0,0)).2)
open Go.RowKit
def okE (n:Int) (e:Int × Int):Bool:=decide (0≤e.1∧e.1<n∧0≤e.2∧e.2<n)
def sizeB (n:Int) (es:List (Int × Int)):Bool:=decide (1≤n∧n≤64∧es.length≤4096)
def isG (n:Int) (es:List (Int × Int)):Bool:=sizeB n es && es.all (okE n)
theorem Vs3 {n:Int} {es:List (Int × Int)} (h:¬ (1≤n∧n≤64∧es.length≤4096)):isG n es=false:=by
 unfold isG sizeB;rw [decide_eq_false h];rfl
theorem Ze7 {es:List (Int × Int)} {k:Nat} (c:k<es.length):es.getD k (0,0)=es[k]:=by simp [List.getD,c]
theorem isG_bad {n:Int} {es:List (Int × Int)} {k:Nat} (c:k<es.length) (h:okE n (es.getD k (0,0))=false):isG n es=false:=by
 unfold isG;rw [Bool.and_eq_false_iff];right;rw [← Bool.not_eq_true,List.all_eq_true];intro d;have:=d _ (List.getElem_mem c);rw [Ze7 c,this] at h;cases h
def Zk8 (n:Int) (es:List (Int × Int)) (k:Nat):Prop:=∀ j,j<k→okE n (es.getD j (0,0))=true
theorem Ze8 {n:Int} {es:List (Int × Int)} {k:Nat} (h:Zk8 n es k) (d:okE n (es.getD k (0,0))=true):Zk8 n es (k+1):=by
 intro j e;by_cases c:j=k
 ·rw [c];exact d
 ·exact h j q41_
theorem isG_end {n:Int} {es:List (Int × Int)} (c:1≤n∧n≤64∧es.length≤4096) {k:Nat} (d:k=es.length) (h:Zk8 n es k):isG n es=true:=by
 unfold isG sizeB;rw [decide_eq_true c,Bool.true_and,List.all_eq_true];exact k22_
theorem idx0 (x y:Int) (w:World):(Instr.index 36 (.agg #[.int .i64 x,.int .i64 y]) (.int .i64 0)).run Tryz.prog w=.ok (.int .i64 x) w:=x41_
theorem idx1 (x y:Int) (w:World):(Instr.index 36 (.agg #[.int .i64 x,.int .i64 y]) (.int .i64 1)).run Tryz.prog w=.ok (.int .i64 y) w:=x41_
theorem Yt7 (n:Int) (v:Value) (es:List (Int × Int)) (w:World) (M:Edges w w.heap.size v es) (K:1≤n) (L:n≤64) (J:es.length≤4096) :
  Calls Tryz.prog 171 #[.int .i64 n,v] w (Says w (isG n es)):=by
 obtain ⟨A,c,rfl,_,z⟩:=M;have q:=hid z;clear z;have p:=hid (fun k=>@isG_bad n es k);have F:=hid (fun k=>@isG_end n es ⟨K,L,J⟩ k);have R:=idx0;have S:=idx1;have Q:(es.length:Int)≤4096:=q41_
 go_enter Tryz.func171,Tryz.ntmps171
 go_wp2
 go_loopw [22] (fun o wr=>∃ k:Nat,o=.int .i64 k∧k≤es.length∧Below w.heap.size w wr∧Zk8 n es k) (fun o _=>es.length - (intOf o).toNat)
 case atStart=>exact ⟨0,rfl,Nat.zero_le _,Below.refl _ _,fun j I=>absurd I q41_⟩
 case round =>
  obtain ⟨k,rfl,P,E,D⟩:=hrel;have Hwr:=hid E;clear E;have r:=hid D;clear D;by_cases C:k<es.length
  ·obtain ⟨ad,hA,hab,s,u⟩:=q.out k C
   subst hA;have N:wr.cell? (ad.add (k * 2))=some (.int .i64 (es.getD k (0,0)).1):=((Hwr.out).cell q43_).trans s;have O:wr.cell? ⟨(ad.add (k * 2)).block,(ad.add (k * 2)).off+1,none⟩=some (.int .i64 (es.getD k (0,0)).2):=((Hwr.out).cell k48_).trans u;have Hno:=hid (p.out k C);have H:=hid (Ze8 (n:=n) (es:=es) (k:=k) r.out);clear s u p q;have He:Hid (okE n (es.getD k (0,0))=decide (0≤(es.getD k (0,0)).1∧(es.getD k (0,0)).1<n∧0≤(es.getD k (0,0)).2∧(es.getD k (0,0)).2<n)):=rfl;generalize (es.getD k (0,0)).1=x at *
   generalize (es.getD k (0,0)).2=y at *
   by_cases e:0≤x∧x<n
   ·obtain ⟨hx1,hx2⟩:=e
    by_cases h:0≤y∧y<n
    ·obtain ⟨hy1,hy2⟩:=h
     have Hx:Hid (okE n (es.getD k (0,0))=true):=y27_;go_wp2;refine wp_loop_rounds 3 ?_;rw [rounds_succ];go_wp2;rw [rounds_succ];go_wp2;rw [rounds_succ];go_wp2
     go_roundw
     case rel=>exact ⟨k+1,z42_,q41_,(Hwr.out).alloc (Hwr.out).size _,H.out Hx.out⟩
     case measure=>simp [intOf];omega
    ·have Hx:Hid (okE n (es.getD k (0,0))=false):=by
      show okE n (es.getD k (0,0))=false;rw [He.out,decide_eq_false_iff_not];rintro ⟨_,_,h3,d⟩;exact h ⟨h3,d⟩
     have m:y<0∨n≤y:=q41_;clear h;rcases m with m | m
     ·exact x37_
     ·have hy2:0≤y:=by omega
      exact x37_
   ·have Hx:Hid (okE n (es.getD k (0,0))=false):=by
     show okE n (es.getD k (0,0))=false;rw [He.out,decide_eq_false_iff_not];rintro ⟨h3,d,_⟩;exact e ⟨h3,d⟩
    have g:x<0∨n≤x:=q41_;clear e;rcases g with g | g
    ·go_wp2
     refine wp_loop_rounds 3 ?_;exact j8_
    ·have hx2:0≤x:=by omega
     go_wp2;refine wp_loop_rounds 3 ?_;exact j8_
  ·have B:k=es.length:=by omega
   have G:=hid (F.out k B r.out);subst B;go_wp2;go_ret;exact X3_ G.out rfl Hwr.out
theorem Yd2 (n:Int) (v:Value) (es:List (Int × Int)) (w:World) (d:Edges w w.heap.size v es) (hl:es.length≤1048576) :
  Calls Tryz.prog 171 #[.int .i64 n,v] w (Says w (isG n es)):=by
 by_cases h:1≤n∧n≤64∧es.length≤4096
 ·exact Yt7 n v es w d h.1 h.2.1 h.2.2
 ·have Hno:=hid (Vs3 h)
  have g:=hid d;obtain ⟨A,c,rfl,_⟩:=d;have k:(es.length:Int)≤1048576:=q41_;have h3:n<1∨(1≤n∧64<n)∨(1≤n∧n≤64∧4096<(es.length:Int)):=q41_;clear h;rcases h3 with h3 | ⟨h3,e⟩ | ⟨h3,e,j⟩
  ·exact j10_
  ·exact j10_
  ·exact j10_
theorem Yt8 (n:Int) (v:Value) (es:List (Int × Int)) (w:World) (c:Edges w w.heap.size v es) (hl:es.length≤1048576) {b:Bool} (hb:isG n es=b) :
  Calls Tryz.prog 171 #[.int .i64 n,v] w (Says w b):=by
 subst hb;exact Yd2 n v es w c hl
open Go.RowKit
def Labels (w:World) (g n:Nat) (f:Nat→Nat):Prop:=w.rowIs g 3 n fun i=>.int .i64 (f i:Int)
theorem Labels.congr {w:World} {g n:Nat} {f f':Nat→Nat} (h:Labels w g n f) (e:∀ i,i<n→f i=f' i):Labels w g n f':=World.rowIs.congr h fun i c=>by rw [e i c]
theorem Labels.set {w:World} {g n:Nat} {f:Nat→Nat} (h:Labels w g n f) (i:Nat) (v:Nat):Labels (w.setCell ⟨g,i,none⟩ (.int .i64 (v:Int))) g n (fun j=>if j=i then v else f j) :=
 World.rowIs.congr (World.rowIs.set h i _) fun j _=>j18_
def Vq3 (w:World) (g n:Nat) (f:Nat→Nat) (e:Ending) (w':World):Prop:=e=.returned (.tuple #[])∧Labels w' g n f∧w.grownBy w' (some g)
theorem Yt9 {f f':Nat→Nat} {lo e k:Nat} (h:f'=fun v=>if f v=e then lo else f v) :
  (f k=e→(fun j=>if j=k then lo else if j<k then f' j else f j)=fun j=>if j<k+1 then f' j else f j)∧(f k≠e→(fun j=>if j<k then f' j else f j)=fun j=>if j<k+1 then f' j else f j):=by
 subst h;constructor
 ·intro g
  funext j
  by_cases c:j=k
  ·subst c;simp [g]
  ·by_cases d:j<k
   ·simp [c,d,show j<k+1 by omega]
   ·simp [c,d,show ¬ j<k+1 by omega]
 ·intro g
  funext j
  by_cases c:j=k
  ·subst c;simp [g]
  ·by_cases d:j<k
   ·simp [d,show j<k+1 by omega]
   ·simp [d,show ¬ j<k+1 by omega]
theorem Yl6 (g n:Nat) (f f':Nat→Nat) (a b lo c:Nat) (u:f'=fun v=>if f v=c then lo else f v) (J:lo<c) (E:(lo=a∧c=b)∨(c=a∧lo=b)) (w:World) (s:Labels w g n f) (K:n≤64) :
  Calls Tryz.prog 172 #[.slice (some ⟨g,0,none⟩) n n,.int .i64 a,.int .i64 b] w (Vq3 w g n f'):=by
 have C:=hid s;clear s;have m:=hid (fun k=>Yt9 (k:=k) u);clear u;have L:(n:Int)≤64:=q41_;have M:((lo:Int)==(c:Int))=false:=by rw [beq_eq_false_iff_ne];omega
 have N:((c:Int)==(lo:Int))=false:=by rw [beq_eq_false_iff_ne];omega
 have O:¬ c<lo:=q41_;rcases E with ⟨q,r⟩ | ⟨q,r⟩
 all_goals
  subst q;subst r
  go_enter Tryz.func172,Tryz.ntmps172
  go_wp2
  go_loopw [21] (fun h wr=>∃ k:Nat,h=.int .i64 k∧k≤n∧Labels wr g n (fun j=>if j<k then f' j else f j)∧w.grownBy wr (some g)) (fun h _=>n - (intOf h).toNat)
  case atStart=>exact ⟨0,rfl,Nat.zero_le _,C.out.congr (fun i _=>by simp),World.grownBy.refl _ _⟩
  case round =>
   obtain ⟨k,rfl,I,z,y⟩:=hrel;have d:=hid z;have e:=hid y;clear z y;by_cases G:k<n
   ·have hc:wr.cell? ⟨g,k,none⟩=some (.int .i64 (f k:Int)):=by
     have:=d.out.cell G;simpa using this
    have H:wr.frozen? ⟨g,k,none⟩=false:=d.out.frozen k;have o:=hid (m.out k).1;have p:=hid (m.out k).2;have D:=hid (fun v=>d.out.set k v);generalize f k=x at hc o p;by_cases B:x=c
    ·subst B
     go_wp2
     go_roundw
     case rel =>
      refine ⟨k+1,z42_,q41_,?_,N2_ e.out (.inl rfl) _⟩;rw [← o.out rfl];exact D.out _
     case measure=>simp [intOf];omega
    ·have P:((x:Int)==(c:Int))=false:=by rw [beq_eq_false_iff_ne];omega
     go_wp2
     go_roundw
     case rel=>exact ⟨k+1,z42_,q41_,by rw [← p.out B];exact d.out,e.out⟩
     case measure=>simp [intOf];omega
   ·have F:k=n:=by omega
    subst F;go_wp2
    go_end0
    exact ⟨rfl,d.out.congr (fun i c=>by simp [c]),e.out⟩
theorem Xe2 (g n:Nat) (f:Nat→Nat) (a b:Nat) (w:World) (d:Labels w g n f) (e:n≤64) :
  Calls Tryz.prog 172 #[.slice (some ⟨g,0,none⟩) n n,.int .i64 a,.int .i64 b] w (Vq3 w g n (R5_ f a b)):=by
 rcases Nat.lt_trichotomy a b with c | c | c
 ·refine Yl6 g n f _ a b a b ?_ c (.inl ⟨rfl,rfl⟩) w d e
  funext v
  unfold R5_;rw [Nat.max_eq_right q41_,Nat.min_eq_left q41_]
 ·subst c
  rw [Zi2];have h:=hid d;clear d;have j:(n:Int)≤64:=q41_
  go_enter Tryz.func172,Tryz.ntmps172
  go_wp2;refine bodyPost_ret (results_none rfl _ _ _) rfl ?_;exact ⟨rfl,h.out,World.grownBy.refl _ _⟩
 ·refine Yl6 g n f _ a b b a ?_ c (.inr ⟨rfl,rfl⟩) w d e
  funext v
  unfold R5_;rw [Nat.max_eq_left q41_,Nat.min_eq_right q41_]
open Go.RowKit
def castE (ns:List (Nat × Nat)):List (Int × Int):=ns.map fun e=>((e.1:Int),(e.2:Int))
theorem V3_ (c:List (Nat × Nat)):(castE c).length=c.length:=by simp [castE]
theorem K7_ (c:List (Nat × Nat)) (k:Nat):(castE c).getD k (0,0)=(((c.getD k (0,0)).1:Int),((c.getD k (0,0)).2:Int)):=by
 unfold castE;rw [List.getD_eq_getElem?_getD,List.getD_eq_getElem?_getD,List.getElem?_map];rcases c[k]? with _ | e<;>rfl
theorem Vq4 {m:Nat} {c:List (Nat × Nat)} (h:1≤m) (j:m≤64) (h3:c.length≤4096) (d:Lies m c):isG m (castE c)=true:=by
 unfold isG sizeB;rw [Bool.and_eq_true,decide_eq_true_iff,List.all_eq_true];refine ⟨⟨q41_,q41_,by rw [V3_];exact h3⟩,fun e f=>?_⟩;obtain ⟨x,g,rfl⟩:=List.mem_map.1 f;have:=d x g;simp only [okE,decide_eq_true_iff];omega
def Ze9 (w:World) (m:Nat) (f:Nat→Nat) (e:Ending) (w':World):Prop :=
 ∃ g,e=.returned (.tuple #[.slice (some ⟨g,0,none⟩) m m,.int .i64 0])∧Labels w' g m f∧w.heap.size≤g∧Below w.heap.size w w'
def E7_ (ns:List (Nat × Nat)) (k:Nat):Nat→Nat:=compF (ns.take k)
theorem Zp7 {c:List (Nat × Nat)} {k:Nat} (d:k<c.length):E7_ c (k+1)=C9_ (E7_ c k) (c.getD k (0,0)):=by
 unfold E7_;rw [List.take_succ_eq_append_getElem d,Zb0];simp [List.getD,d]
theorem Yy4 {m:Nat} {c:List (Nat × Nat)} (h:Lies m c) {k:Nat} (d:k<c.length):(c.getD k (0,0)).1<m∧(c.getD k (0,0)).2<m:=by
 have:=h c[k] (List.getElem_mem d);simpa [List.getD,d] using this
theorem Yu0 (m:Nat) (v:Value) (d:List (Nat × Nat)) (w:World) (O:Edges w w.heap.size v (castE d)) (h1:1≤m) (K:m≤64) (h3:d.length≤4096) (z:Lies m d) :
  Calls Tryz.prog 144 #[.int .i64 m,v] w (Ze9 w m (compF d)):=by
 have Y:=hid O;have S:=hid (Vq4 h1 K h3 z);have X:=hid z;have hl:(castE d).length≤1048576:=by rw [V3_];omega
 obtain ⟨A,c,P,_,B⟩:=O;rw [V3_] at P B;subst P;have F:=hid B;clear B z;have x2:(m:Int)≤64:=q41_;have x1:1≤(m:Int):=q41_;have x3:(d.length:Int)≤4096:=q41_;have x0:=fun W=>run_make_row' 26 3 (.int .i64 0) 8 Tryz.underlying26 info3 rfl .i64 .i64 m q41_ q41_ W
 go_enter Tryz.func144,Tryz.ntmps144
 go_wp2_with fail
 refine (Yt8 m _ (castE d) w Y.out hl S.out).mono ?_;rintro e w1 ⟨rfl,r⟩;obtain ⟨g,hg⟩:∃ g,g=w1.heap.size:=⟨_,rfl⟩;have Hgs:Hid (w.heap.size≤g):=by
  show _≤_;rw [hg];exact r.size
 have U:Hid (Labels (w1.alloc (.cells (madeCells #[.int .i64 0] m) 3)) g m (fun j=>if j<0 then j else 0)):=q21_;have R:Hid (Below w.heap.size w (w1.alloc (.cells (madeCells #[.int .i64 0] m) 3))):=r.alloc r.size _;clear r;go_wp2;rw [← hg];clear hg x0
 go_loopw [18] (fun h wr=>∃ k:Nat,h=.int .i64 k∧k≤m∧Labels wr g m (fun j=>if j<k then j else 0)∧Below w.heap.size w wr) (fun h _=>m - (intOf h).toNat)
 case atStart=>exact ⟨0,rfl,Nat.zero_le _,U.out,R.out⟩
 case round =>
  obtain ⟨k,rfl,M,q,o⟩:=hrel;have Hlab:=hid q;have Hbr:=hid o;clear q o;by_cases hlt:k<m
  ·exact k4_
  ·have C:k=m:=by omega
   have G:=hid (Hlab.out.congr (f':=E7_ d 0) (fun i hi=>by simp [E7_,compF,show i<k by omega]));clear Hlab;go_wp2
   go_loopw [28] (fun h wr=>∃ k:Nat,h=.int .i64 k∧k≤d.length∧Labels wr g m (E7_ d k)∧Below w.heap.size w wr) (fun h _=>d.length - (intOf h).toNat)
   case atStart=>exact ⟨0,rfl,Nat.zero_le _,G.out,Hbr.out⟩
   case round =>
    clear G Hbr C hlt M;obtain ⟨k,rfl,M,q,o⟩:=hrel;have Hlab:=hid q;have Hbr:=hid o;clear q o;by_cases hlt:k<d.length
    ·obtain ⟨ad,hA,hab,q1,q2⟩:=F.out k hlt
     subst hA;rw [K7_] at q1 q2;simp only at q1 q2;have I:=(Hbr.out.cell (p:=ad.add (k * 2)) q43_).trans q1;have J:=(Hbr.out.cell (p:=⟨(ad.add (k * 2)).block,(ad.add (k * 2)).off+1,none⟩) k48_).trans q2;clear q1 q2 F;have D:=Yy4 X.out hlt;have H:=hid (Zp7 hlt);obtain ⟨⟨x,y⟩,Q⟩:∃ e,e=d.getD k (0,0):=⟨_,rfl⟩;rw [← Q] at I J D H;clear Q;simp only at I J D;obtain ⟨hx,hy⟩:=D;have x4:(x:Int)<m:=q41_;have x5:(y:Int)<m:=q41_;have u:=Blk.new wr 36 #[.int .i64 (x:Int),.int .i64 (y:Int)];have Z:=u.cell 0;have d1:=u.cell 1;simp only [List.getElem?_toArray,List.getElem?_cons_zero,List.getElem?_cons_succ] at Z d1;have s:=hid (World.rowIs.alloc Hlab.out (.cells #[.int .i64 (x:Int),.int .i64 (y:Int)] 36));have c1:=s.out.cell hx;have c2:=s.out.cell hy;have E:=hid (Hbr.out.alloc Hbr.out.size (.cells #[.int .i64 (x:Int),.int .i64 (y:Int)] 36));clear u;go_wp2;generalize wr.alloc (.cells #[.int .i64 (x:Int),.int .i64 (y:Int)] 36)=W at *
     generalize wr.heap.size=eb at *
     go_still_tail 11,x41_
     change wpList _ _ _ _ _ W.drew
     go_wp2_with fail
     refine (Xe2 g m (E7_ d k) (E7_ d k x) (E7_ d k y) W.drew s.out K).mono ?_;rintro e w3 ⟨rfl,N,L⟩;have V:=hid N;have T:=hid L;clear N L;go_wp2
     go_roundw
     case rel =>
      refine ⟨k+1,z42_,q41_,by rw [H.out];exact V.out,E.out.trans ?_⟩;exact ((Below.refl w.heap.size W).drew).grown T.out E.out.size (fun i hi=>by injection hi with hi;rw [← hi];exact Hgs.out)
     case measure=>simp [intOf];omega
    ·have C:k=d.length:=by omega
     have Hfin:=hid (Hlab.out.congr (f':=compF d) (fun i _=>by unfold E7_;rw [C,List.take_length]));exact k28_
open Go.RowKit Go.Maps
def castL (l:List Nat):List Int:=l.map fun v:Nat=>(v:Int)
def castP (pp:List (List Nat)):List (List Int):=pp.map castL
theorem C7_ (pp:List (List Nat)):(castP pp).length=pp.length:=by simp [castP]
theorem Xw3 {pp:List (List Nat)} {i:Nat} {p:List Nat} (h:pp[i]?=some p):(castP pp)[i]?=some (castL p):=by simp [castP,h]
theorem Xe3 (pp:List (List Nat)) (i:Nat) (p:List Nat):castP (pp.set i p)=(castP pp).set i (castL p):=by simp [castP,List.map_set]
theorem Zv7 (l:List Nat):(castL l).length=l.length:=by simp [castL]
theorem Zk9 (l:List Nat) (k:Nat):castL (l ++ [k])=castL l ++ [(k:Int)]:=by simp [castL]
def Zv8 (D:DataW Unit) (f:Nat→Nat) (k:Nat):Prop:=∀ r,r<k→f r=r→D.atKey (.int .i64 (r:Int)) (.lit (.int .i64 0))=.lit (.int .i64 (cnt (rootB f) r:Int))
theorem law3:Keyed Tryz.prog 3 := int_keyed Tryz.underlying3
theorem zero3 (w:World):(zeroValue 3).run Tryz.prog w=.ok (.int .i64 0) w:=x41_
theorem Yy5:(Tryz.prog.info? 26).map (fun i=>(i.zero,i.size,i.bytes))=some (some (.slice none 0 0),1,24):=x41_
theorem Yd3 {D:DataW Unit} {f:Nat→Nat} {k:Nat} (h:Zv8 D f k) (d:f k≠k):Zv8 D f (k+1):=by
 intro r g c;by_cases e:r=k
 ·subst e;exact absurd c d
 ·exact h r q41_ c
theorem isMap_of {w:World} {b n:Nat} {D:DataW Unit} (h:w.ownsMap Tryz.prog 3 (plainElem Tryz.prog 3) b n D):IsMap D:=by
 obtain ⟨_,_,_,_,_,c⟩:=h;exact ⟨_,c⟩
theorem Yu1 {D:DataW Unit} {f:Nat→Nat} {k:Nat} (h:Zv8 D f k) (c:IsMap D):Zv8 (D.put (.int .i64 (k:Int)) (.lit (.int .i64 (cnt (rootB f) k:Int)))) f (k+1):=by
 intro r j d;by_cases g:r=k
 ·subst g
  exact atKey_put_same c (show WideAt.IsKeyLit (.int .i64 (r:Int)) from trivial) _ _
 ·rw [atKey_put_other (by intro e;injection e;omega)]
  exact h r q41_ d
def Yy6 (w:World) (pp:List (List Int)) (e:Ending) (w':World):Prop :=
 ∃ v,e=.returned (.tuple #[v,.int .i64 0])∧Rows2 w' w'.heap.size v pp∧Below w.heap.size w w'
theorem Yu2 (m:Nat) (v:Value) (I:List (Nat × Nat)) (w:World) (K:Edges w w.heap.size v (castE I)) (h1:1≤m) (h2:m≤64) (h3:I.length≤4096) (h4:Lies m I) :
  Calls Tryz.prog 112 #[.int .i64 m,v] w (Yy6 w (castP (D1_ m (compF I)))):=by
 have Hr:=hid K;have Hc:=hid (Yu0 m v I w K h1 h2 h3 h4);have z0:(m:Int)≤64:=q41_;have yz:1≤(m:Int):=q41_;have Q:=hid (Xj2 I);have P:=hid (Zt8 I);obtain ⟨A,c,rfl,_⟩:=K;clear h4 h3;have yt:=@run_makeMap Tryz.prog
 go_enter Tryz.func112,Tryz.ntmps112
 go_wp2_with fail
 refine Hc.out.mono ?_;rintro e w1 ⟨g,rfl,xz,hg,xc⟩;generalize compF I=f at *
 have xm:=hid xz;clear Hc xz Hr;have xx:g<w1.heap.size:=World.rowIs.lt xm.out;obtain ⟨d,hmb⟩:∃ d,d=w1.heap.size:=⟨_,rfl⟩;have xn:Hid ((w1.alloc (.map #[] 0)).ownsMap Tryz.prog 3 (plainElem (H:=Unit) Tryz.prog 3) d 0 (.map [])):=by
  show World.ownsMap _ _ _ _ _ _ _;rw [hmb];exact World.ownsMap_made w1 Tryz.prog 3 _
 have xi:Hid (Below d w1 (w1.alloc (.map #[] 0))):=q29_;have xq:Hid (d+1≤(w1.alloc (.map #[] 0)).heap.size):=by
  show _≤_;rw [hmb];simp
 have Hmbw:Hid (w.heap.size≤d):=by
  show _≤_;rw [hmb];exact xc.size
 have yp:g<d:=by rw [hmb];exact xx
 have Hb1:=hid xc;clear xc xx;go_wp2;rw [← hmb];have yy:=hid hmb;clear hmb yt
 go_loopw [8,25] (fun vp vk wr=>∃ (k:Nat) (y:List Value) (D:DataW Unit),vk=.int .i64 k∧k≤m∧wr.ownsRow (d+1) 26 1 vp y.length y∧Fam wr (d+1) y (castP (D1_ k f)) ∧
   wr.ownsMap Tryz.prog 3 (plainElem Tryz.prog 3) d k D∧Zv8 D f k∧Below d w1 wr∧d+1≤wr.heap.size) (fun _ vk _=>m - (intOf vk).toNat)
 case atStart=>exact ⟨0,[],.map [],rfl,Nat.zero_le _,World.ownsRow_nil _ _ _ _,Yj3 _ _,xn.out,fun r K=>absurd K q41_,xi.out,xq.out⟩
 case round =>
  obtain ⟨k,y,D,rfl,hk,xg,xw,y1,x1,xu,y7⟩:=hrel;clear xn xi xq;obtain ⟨vA,vc,rfl⟩:=Q3_ xg;have Hown:=hid xg;have Hfam:=hid xw;have x7:=hid y1;have xp:=hid x1;have Hbr:=hid xu;clear xg xw y1 x1 xu;by_cases ys:k<m
  ·have hc:wr.cell? ⟨g,k,none⟩=some (.int .i64 (f k:Int)):=(Hbr.out.cell (p:=⟨g,k,none⟩) (yp)).trans (xm.out.cell ys)
   have xb:Hid (y.length=cnt (rootB f) k):=by
    show _=_;rw [Hfam.out.1,C7_,A5_]
   have z4:y.length≤64:=by
    rw [xb.out];have:=C4_ (rootB f) k;omega
   have z5:(y.length:Int)≤64:=q41_;obtain ⟨x,W⟩:∃ x,x=f k:=⟨_,rfl⟩;rw [← W] at hc;have z7:x≤k:=by rw [W];exact Q.out k
   have ye:Hid (f x=x):=by
    show f x=x;rw [W];exact P.out k
   have xt:=hid (WalkArith.wf_i64 (n:=(x:Int)) q41_);have yl:=hid (WalkArith.wf_i64 (n:=(y.length:Int)) q41_);have Hxe:=hid W;clear W;by_cases T:x=k
   case' pos =>
    have Hroot:=hid T;have yr:((k:Int)==(x:Int))=true:=by simp [T]
    clear T
    go_wp2_with (at_mapUpdate;refine wpList_mapUpdate_own _ rfl _ _ _ 147 rfl 3 3 law3 Tryz.underlying147 _ d k _ rfl x7.out y42_ _ _ _ rfl rfl (keyOf_int_mk Tryz.underlying3 xt.out) _ [] (plainElem_int Tryz.underlying3 yl.out) ?_)
    intro w2 y2 xy;have xo:=hid y2;have O:=hid xy;clear y2 xy;have yv:d+1≤w2.heap.size:=Nat.le_trans y7 O.out.size;have yb:∀ q,(Value.slice vA y.length vc).ownBlock=some q→d+1≤q:=fun q hq=>(Hown.out.lt q hq).1;have Z:=hid yb;clear yb;have x9:=hid (Hown.out.kept O.out (by
     rcases hb:(Value.slice vA y.length vc).ownBlock with _ | q
     ·exact .inl rfl
     ·right
      intro E;injection E with E;have:=Z.out q hb;omega))
    have Y:=hid (Hfam.out.apart O.out q41_);have xj:=hid (Hbr.out.grown O.out q41_ (fun i s=>by injection s with s;omega));have J:=(Blk.new w2 26 #[.slice none 0 0]).cell 0;simp only [List.getElem?_toArray,List.getElem?_cons_zero] at J;have X:=hid J;clear J
    go_wp2_with (at_builtin;refine X6_ rfl _ _ 22 26 (.slice none 0 0) 24 rfl Tryz.underlying22 Yy5 rfl (d+1) _ (.slice none 0 0) y rfl (x9.out.alloc _) w2.heap.size rfl X.out rfl q41_ q41_ k41_ ?_)
    intro yx o y4 S _;obtain ⟨z,hD⟩:∃ z,z=D.put (.int .i64 (x:Int)) (.lit (.int .i64 (y.length:Int))):=⟨_,rfl⟩;have xa:Hid (Zv8 z f (k+1)):=by
     show Zv8 _ _ _;rw [hD,Hroot.out,xb.out];exact Yu1 xp.out (isMap_of x7.out)
    have x8:Hid (o.ownsMap Tryz.prog 3 (plainElem Tryz.prog 3) d (k+1) z):=by
     show World.ownsMap _ _ _ _ _ _ _;rw [hD];refine (xo.out.alloc _).kept S ?_;intro E;have:=Z.out d E.symm;omega
    have xk:=hid ((xj.out.alloc q41_ (.cells #[.slice none 0 0] 26)).grown S k41_ (fun i s=>by have:=Z.out i s;omega));have yw:d+1≤o.heap.size:=Nat.le_trans k41_ S.size;obtain ⟨h,x2⟩:∃ h,h=y ++ [.slice none 0 0]:=⟨_,rfl⟩;have M:Hid (o.ownsRow (d+1) 26 1 yx h.length h):=by
     show World.ownsRow _ _ _ _ _ _ _;rw [x2,List.length_append];exact y4
    have N:Hid (Fam o (d+1) h (castP (X8_ k f))):=by
     show Fam _ _ _ _;have K:castP (X8_ k f)=castP (D1_ k f) ++ [[]]:=by
      unfold X8_;rw [← Hxe.out,if_pos Hroot.out];simp [castP,castL]
     rw [x2,K];refine Fam.more ?_;refine (Y.out.new (World.grownBy_alloc _ (.cells #[.slice none 0 0] 26) none)).kept S ?_;intro v U;obtain ⟨i,s,rfl⟩:=List.mem_iff_getElem.1 U;have xf:i<(castP (D1_ k f)).length:=by rw [← Y.out.1];exact s
     exact Zx4 (Y.out.2.1 i _ _ (List.getElem?_eq_getElem s) (List.getElem?_eq_getElem xf)) x9.out x42_
    have V:0<h.length:=by rw [x2,List.length_append];simp
    obtain ⟨go,R,rfl,yq⟩:=L3_ M.out V;clear hD x2 V y4 S X xj Y x9 Z xo O yv
   case' neg =>
    have Hroot:=hid T;have yr:((k:Int)==(x:Int))=false:=by rw [beq_eq_false_iff_ne];omega
    clear T;obtain ⟨o,rfl⟩:∃ o,o=wr:=⟨_,rfl⟩;obtain ⟨h,rfl⟩:∃ h,h=y:=⟨_,rfl⟩;obtain ⟨z,rfl⟩:∃ z,z=D:=⟨_,rfl⟩;have xa:Hid (Zv8 z f (k+1)):=Yd3 xp.out k51_;have x8:=hid (x7.out.mono (Nat.le_succ k));have xk:=Hbr;have yw:=y7;have M:=Hown;have N:Hid (Fam o (d+1) h (castP (X8_ k f))):=by
     show Fam _ _ _ _;unfold X8_;rw [← Hxe.out,if_neg Hroot.out];exact Hfam.out
    have V:0<h.length:=by
     rw [N.out.1,C7_];exact Nat.lt_of_le_of_lt (Nat.zero_le _) (Ya5 (k:=k) Q.out P.out)
    obtain ⟨go,R,U,yq⟩:=L3_ M.out V;injection U with hv1 _ hv2;subst hv1;obtain rfl:R=vc:=hv2.symm;clear V
   all_goals
    go_wp2_with (at_lookup;refine wpList_lookup_own_int _ rfl _ _ 147 rfl 3 3 .i64 law3 Tryz.underlying147 Tryz.underlying3 (zero3 _) d (k+1) z rfl x8.out _ _ rfl (keyOf_int_mk Tryz.underlying3 xt.out) ?_)
    intro c B _;rw [xa.out x q41_ ye.out] at B;obtain rfl:c=(cnt (rootB f) x:Int):=by injection B with B;injection B with _ B;exact B.symm
    clear B;have y5:cnt (rootB f) x<(X8_ k f).length:=by rw [Hxe.out];exact Ya5 Q.out P.out
    have B:(X8_ k f)[cnt (rootB f) x]?=some (X2_ k f x):=by rw [Hxe.out];exact Vc8 Q.out P.out
    have yi:Hid (castP (D1_ (k+1) f)=(castP (X8_ k f)).set (cnt (rootB f) x) (castL (X2_ k f x) ++ [(k:Int)])):=by
     show _=_;rw [Yp7 Q.out P.out,Xe3,Zk9,← Hxe.out]
    generalize cnt (rootB f) x=q at *
    have xh:h.length=(X8_ k f).length:=by rw [N.out.1,C7_]
    have yu:q<h.length:=by rw [xh];exact y5
    have z6:h.length≤65:=by
     rw [xh,Zb3];have:=C4_ (rootB f) (k+1);omega
    have hu:h[q]?=some h[q]:=List.getElem?_eq_getElem yu;have x0:=N.out.2.1 q _ _ hu (Xw3 B);have xv:=M.out.cells (g:=go) rfl q _ hu;have yo:o.cell? ⟨go,q,none⟩=some h[q]:=by
     rw [← xv];unfold Addr.add;split<;>simp_all
    clear xv;have x1:(castL (X2_ k f x)).length≤64:=by
     rw [Zv7];have:=T9_ k f x;omega
    generalize h[q]=u at *
    have z3:(q:Int)<(h.length:Int):=q41_;obtain ⟨j,x4⟩:∃ j,j=ints (castL (X2_ k f x)):=⟨_,rfl⟩;have x3:j.length=(castL (X2_ k f x)).length:=by rw [x4,Y6_]
    rw [← x4,← x3] at x0;rw [← x3] at x1;obtain ⟨uA,uc,rfl⟩:=Q3_ x0;have x6:=hid x0;have Hu:=hid hu;have yn:=hid x4;have ym:=hid x3;clear x0 hu B y5 xh xb x4 x3;have J:=(Blk.new o 3 #[.int .i64 (k:Int)]).cell 0;simp only [List.getElem?_toArray,List.getElem?_cons_zero] at J;have X:=hid J;clear J;have y9:(o.alloc (.cells #[.int .i64 (k:Int)] 3)).heap.size=o.heap.size+1:=j41_;have Hsz3:=hid y9;have ya:∀ i,(Value.slice uA j.length uc).ownBlock=some i→d+1≤i:=fun i s=>(x6.out.lt i s).1;have xr:=hid ya;clear y9 ya
    go_wp2_with (at_builtin;refine X6_ rfl _ _ 26 3 (.int .i64 0) 8 rfl Tryz.underlying26 info3 rfl (d+1) _ (.int .i64 (k:Int)) j rfl (x6.out.alloc _) o.heap.size rfl X.out rfl q41_ q41_ x47_ ?_)
    intro u5 C xe xd y0;have x5:=hid ((World.grownBy_alloc o (.cells #[.int .i64 (k:Int)] 3) (Value.slice uA j.length uc).ownBlock).trans xd);have y3:(Value.slice (some ⟨go,0,none⟩) h.length R).ownBlock=none∨(Value.slice (some ⟨go,0,none⟩) h.length R).ownBlock≠(Value.slice uA j.length uc).ownBlock:=Zx4 M.out x6.out x42_;have L:=hid (M.out.kept x5.out y3);have z1:C.cell? ⟨go,q,none⟩=some (.slice uA j.length uc):=by rw [L.out.cellAt q q41_];exact Hu.out
    have z2:C.frozen? ⟨go,q,none⟩=false:=L.out.frozenAt q;have yf:=hid xe;have xl:=hid xd;have yg:=hid y0;obtain ⟨F,G,rfl⟩:=Q3_ xe;clear xe xd y0 y3 yo;have y8:(o.alloc (.cells #[.int .i64 (k:Int)] 3)).heap.size≤C.heap.size:=xl.out.size;have yd:Hid (Fam (C.setCell ⟨go,q,none⟩ (.slice F (j.length+1) G)) (d+1) (h.set q (.slice F (j.length+1) G)) (castP (D1_ (k+1) f))):=by
     show Fam _ _ _ _;rw [yi.out];have hq:ints (castL (X2_ k f x) ++ [(k:Int)])=j ++ [.int .i64 (k:Int)]:=by rw [V6_,yn.out];rfl
     have h5:Fam C (d+1) (h.set q (.slice F (j.length+1) G)) ((castP (X8_ k f)).set q (castL (X2_ k f x) ++ [(k:Int)])):=by
      refine (N.out.new (World.grownBy_alloc _ (.cells #[.int .i64 (k:Int)] 3) none)).grow Hu.out xl.out ?_ (by rw [Hsz3.out];exact yg.out);rw [hq,List.length_append,← ym.out];exact yf.out
     refine h5.kept (row:=some go) (L.out.stored q _).2 ?_;intro v U;obtain ⟨i,s,rfl⟩:=List.mem_iff_getElem.1 U;have xf:i<((castP (X8_ k f)).set q (castL (X2_ k f x) ++ [(k:Int)])).length:=by rw [← h5.1];exact s
     exact Zx4 (h5.2.1 i _ _ (List.getElem?_eq_getElem s) (List.getElem?_eq_getElem xf)) L.out x42_
    have yj:Hid ((C.setCell ⟨go,q,none⟩ (.slice F (j.length+1) G)).ownsRow (d+1) 26 1 (.slice (some ⟨go,0,none⟩) h.length R) (h.set q (.slice F (j.length+1) G)).length (h.set q (.slice F (j.length+1) G))):=by
     show World.ownsRow _ _ _ _ _ _ _;rw [List.length_set];exact (L.out.stored q _).1
    have yh:Hid ((C.setCell ⟨go,q,none⟩ (.slice F (j.length+1) G)).ownsMap Tryz.prog 3 (plainElem Tryz.prog 3) d (k+1) z):=by
     refine (x8.out.kept x5.out ?_).kept (row:=some go) (L.out.stored q _).2 ?_
     ·intro E
      have:=xr.out d E.symm;omega
     ·intro E
      injection E with E;omega
    have yc:Hid (Below d w1 (C.setCell ⟨go,q,none⟩ (.slice F (j.length+1) G))):=by
     refine (xk.out.grown x5.out q41_ (fun i s=>by have:=xr.out i s;omega)).setCell ?_ _;show d≤go;omega
    have y6:d+1≤(C.setCell ⟨go,q,none⟩ (.slice F (j.length+1) G)).heap.size:=by
     have:o.heap.size+1≤C.heap.size:=by rw [← Hsz3.out];exact y8
     simp [World.setCell];omega
    have yk:=hid y6;clear y6 y8;go_wp2
    go_roundw
    case rel=>exact ⟨k+1,_,z,z42_,q41_,yj.out,yd.out,yh.out,xa.out,yc.out,yk.out⟩
    case measure=>simp [intOf];omega
  ·have hke:k=m:=by omega
   exact q17_
open Go.RowKit
def Vq5 (w:World) (x:Int) (e:Ending) (w':World):Prop:=e=.returned (.int .i64 x)∧Below w.heap.size w w'
def rankN (m:Nat) (ns:List (Nat × Nat)):Int:=(m:Int) - (H2_ m ns:Int)
theorem Xe4 (m:Nat) (v:Value) (d:List (Nat × Nat)) (w:World) (h:Edges w w.heap.size v (castE d)) (p:1≤m) (q:m≤64) (h3:d.length≤4096) (g:Lies m d) :
  Calls Tryz.prog 89 #[.int .i64 m,v] w (Vq5 w (rankN m d)):=by
 have o:=hid (Yu2 m v d w h p q h3 g);have y:(m:Int)≤64:=q41_;have x:1≤(m:Int):=q41_;obtain ⟨A,c,rfl,_⟩:=h;clear g h3
 go_enter Tryz.func89,Tryz.ntmps89
 go_wp2_with fail
 refine o.out.mono ?_;rintro e D ⟨C,rfl,s,r⟩;obtain ⟨u,c1,rfl,_⟩:=s;rw [C7_,A5_];have z:=C4_ (rootB (compF d)) m;have j:Hid ((m:Int) - (cnt (rootB (compF d)) m:Int)=rankN m d):=rfl;generalize cnt (rootB (compF d)) m=k at *
 have B:(k:Int)≤m:=q41_;go_wp2;go_ret;exact ⟨by rw [← j.out];rfl,r⟩
open Go.RowKit
theorem Xw4 {n:Int} {es:List (Int × Int)} {k:Nat} (c:k=es.length) (h:Zk8 n es k):isG n es=sizeB n es:=by
 unfold isG;have:es.all (okE n)=true:=by
  rw [List.all_eq_true];exact k22_
 rw [this,Bool.and_true]
theorem Yy7 (n:Int) (v:Value) (es:List (Int × Int)) (w:World) (G:Edges w w.heap.size v es) (hl:es.length≤1048576) :
  Calls Tryz.prog 193 #[.int .i64 n,v] w (Says w (isG n es)):=by
 obtain ⟨A,c,rfl,_,r⟩:=G;have q:=hid r;clear r;have g:=hid (fun k=>@isG_bad n es k);have O:(es.length:Int)≤1048576:=q41_
 go_enter Tryz.func193,Tryz.ntmps193
 go_wp2
 go_loopw [5] (fun p wr=>∃ k:Nat,p=.int .i64 k∧k≤es.length∧Below w.heap.size w wr∧Zk8 n es k) (fun p _=>es.length - (intOf p).toNat)
 case atStart=>exact ⟨0,rfl,Nat.zero_le _,Below.refl _ _,fun j F=>absurd F q41_⟩
 case round =>
  obtain ⟨k,rfl,N,B,z⟩:=hrel;have Hwr:=hid B;clear B;have m:=hid z;clear z;by_cases u:k<es.length
  ·obtain ⟨ad,hA,hab,d,e⟩:=q.out k u
   subst hA;have H:wr.cell? (ad.add (k * 2))=some (.int .i64 (es.getD k (0,0)).1):=((Hwr.out).cell q43_).trans d;have I:wr.cell? ⟨(ad.add (k * 2)).block,(ad.add (k * 2)).off+1,none⟩=some (.int .i64 (es.getD k (0,0)).2):=((Hwr.out).cell k48_).trans e;have C:=hid (g.out k u);have D:=hid (Ze8 (n:=n) (es:=es) (k:=k) m.out);clear d e g q;have P:(k:Int)<(es.length:Int):=q41_;have He:Hid (okE n (es.getD k (0,0))=decide (0≤(es.getD k (0,0)).1∧(es.getD k (0,0)).1<n∧0≤(es.getD k (0,0)).2∧(es.getD k (0,0)).2<n)):=rfl;generalize (es.getD k (0,0)).1=x at *
   generalize (es.getD k (0,0)).2=y at *
   by_cases hb:0≤x∧x<n∧0≤y∧y<n
   ·obtain ⟨hx1,hx2,hy1,hy2⟩:=hb
    have o:Hid (okE n (es.getD k (0,0))=true):=y27_;go_wp2
    go_quiet (fail)
    go_wp2
    go_roundw
    case rel=>exact ⟨k+1,z42_,q41_,Y2_ (Hwr.out) _,D.out o.out⟩
    case measure=>simp [intOf];omega
   ·have o:Hid (okE n (es.getD k (0,0))=false):=by
     show okE n (es.getD k (0,0))=false;rw [He.out,decide_eq_false_iff_not];exact hb
    have E:x<0∨(0≤x∧y<0)∨(0≤x∧0≤y∧n≤x)∨(0≤x∧0≤y∧x<n∧n≤y):=q41_;clear hb;rcases E with d | ⟨d,e⟩ | ⟨d,e,h3⟩ | ⟨d,e,h3,M⟩
    all_goals
     go_wp2
     go_quiet (fail)
     go_wp2;go_ret;exact X3_ (C.out o.out) rfl (Y2_ (Hwr.out) _)
  ·have s:k=es.length:=by omega
   have Hsz:=hid (Xw4 s m.out);subst s;clear g m;by_cases d:1≤n
   ·by_cases e:n≤64
    ·by_cases h3:(es.length:Int)≤4096
     ·have Hb:Hid (sizeB n es=true):=by
       show sizeB n es=true;unfold sizeB;exact decide_eq_true ⟨d,e,q41_⟩
      exact q14_
     ·have Hb:Hid (sizeB n es=false):=by
       show sizeB n es=false;unfold sizeB;exact decide_eq_false (fun h=>h3 q41_)
      have L:4096<(es.length:Int):=q41_;exact q14_
    ·have Hb:Hid (sizeB n es=false):=by
      show sizeB n es=false;unfold sizeB;exact decide_eq_false (fun h=>e q41_)
     have K:64<n:=q41_;exact q14_
   ·have Hb:Hid (sizeB n es=false):=by
     show sizeB n es=false;unfold sizeB;exact decide_eq_false (fun h=>d q41_)
    have J:n<1:=q41_;exact q14_
theorem Yd4 (n:Int) (v:Value) (es:List (Int × Int)) (w:World) (c:Edges w w.heap.size v es) (hl:es.length≤1048576) {b:Bool} (hb:isG n es=b) :
  Calls Tryz.prog 193 #[.int .i64 n,v] w (Says w b):=by
 subst hb;exact Yy7 n v es w c hl
open Go.RowKit
def Q5_ (ns:List (Nat × Nat)) (f:Nat→Nat) (i:Nat):Nat→Nat:=(ns.take i).foldl stepF f
theorem Zh6 {c:List (Nat × Nat)} {f:Nat→Nat} {i:Nat} (d:i<c.length):Q5_ c f (i+1)=stepF (Q5_ c f i) (c.getD i (0,0)):=by
 unfold Q5_;rw [List.take_succ_eq_append_getElem d,List.foldl_append];simp [List.getD,d]
theorem Zp8 (m:Nat) (v:Value) (d:List (Nat × Nat)) (w:World) (hr:Edges w w.heap.size v (castE d)) (h1:1≤m) (h2:m≤64) (h3:d.length≤4096) (F:Lies m d) :
  Calls Tryz.prog 191 #[.int .i64 m,v] w (Ze9 w m (compF d)):=by
 have Hr:=hid hr;have Hg:=hid (Vq4 h1 h2 h3 F);have Q:=hid F;have hl:(castE d).length≤1048576:=by rw [V3_];omega
 obtain ⟨A,c,hv,_,H⟩:=hr;rw [V3_] at hv H;subst hv;have O:=hid H;clear H F;have xa:(m:Int)≤64:=q41_;have x9:1≤(m:Int):=q41_;have xb:(d.length:Int)≤4096:=q41_;have x7:=fun W=>run_make_row' 26 3 (.int .i64 0) 8 Tryz.underlying26 info3 rfl .i64 .i64 m q41_ q41_ W
 go_enter Tryz.func191,Tryz.ntmps191
 go_wp2_with fail
 refine (Yd4 m _ (castE d) w Hr.out hl Hg.out).mono ?_;rintro e w1 ⟨rfl,C⟩;obtain ⟨g,hg⟩:∃ g,g=w1.heap.size:=⟨_,rfl⟩;have Hgs:Hid (w.heap.size≤g):=by
  show _≤_;rw [hg];exact C.size
 have x2:Hid (Labels (w1.alloc (.cells (madeCells #[.int .i64 0] m) 3)) g m (fun j=>if j<0 then j else 0)):=q21_;have x0:Hid (Below w.heap.size w (w1.alloc (.cells (madeCells #[.int .i64 0] m) 3))):=C.alloc C.size _;clear C;go_wp2;rw [← hg];clear hg x7
 go_loopw [7] (fun s wr=>∃ k:Nat,s=.int .i64 k∧k≤m∧Labels wr g m (fun j=>if j<k then j else 0)∧Below w.heap.size w wr) (fun s _=>m - (intOf s).toNat)
 case atStart=>exact ⟨0,rfl,Nat.zero_le _,x2.out,x0.out⟩
 case round =>
  obtain ⟨k,rfl,V,r,q⟩:=hrel;have Hlab:=hid r;have Hbr:=hid q;clear r q;by_cases hlt:k<m
  ·exact k4_
  ·have J:k=m:=by omega
   have P:=hid (Hlab.out.congr (f':=J9_ d 0) (fun i hi=>by simp [J9_,show i<k by omega]));clear Hlab;go_wp2
   go_loopw [8] (fun s wr=>∃ k:Nat,s=.int .i64 k∧k≤m∧Labels wr g m (J9_ d k)∧Below w.heap.size w wr) (fun s _=>m - (intOf s).toNat)
   case atStart=>exact ⟨0,rfl,Nat.zero_le _,P.out,Hbr.out⟩
   case round =>
    clear P Hbr J hlt V;obtain ⟨k,rfl,V,r,q⟩:=hrel;have Hlab:=hid r;have Hbr:=hid q;clear r q;by_cases hlt:k<m
    ·go_wp2
     go_loopw [9] (fun N wr=>∃ i:Nat,N=.int .i64 i∧i≤d.length∧Labels wr g m (Q5_ d (J9_ d k) i)∧Below w.heap.size w wr) (fun N _=>d.length - (intOf N).toNat)
     case atStart=>exact ⟨0,rfl,Nat.zero_le _,Hlab.out,Hbr.out⟩
     case round =>
      clear Hlab Hbr;obtain ⟨i,rfl,hi,r,q⟩:=hrel;have Hlab:=hid r;have Hbr:=hid q;clear r q;by_cases I:i<d.length
      ·obtain ⟨B,hA,hab,q1,q2⟩:=O.out i I
       subst hA;rw [K7_] at q1 q2;simp only at q1 q2;have S:=(Hbr.out.cell (p:=B.add (i * 2)) q43_).trans q1;have T:=(Hbr.out.cell (p:=⟨(B.add (i * 2)).block,(B.add (i * 2)).off+1,none⟩) (by show (B.add (i * 2)).block<_;rw [Z2_];exact hab)).trans q2;clear q1 q2 O;have K:=Yy4 Q.out I;have R:=hid (Zh6 (f:=J9_ d k) I);obtain ⟨⟨x,y⟩,z⟩:∃ e,e=d.getD i (0,0):=⟨_,rfl⟩;rw [← z] at S T K R;clear z;simp only at S T K;obtain ⟨hx,hy⟩:=K;have c1:=Hlab.out.cell hx;have c2:=Hlab.out.cell hy;have f1:=Hlab.out.frozen x;have f2:=Hlab.out.frozen y;have xd:(x:Int)<m:=q41_;have xe:(y:Int)<m:=q41_;have xc:(i:Int)<(d.length:Int):=q41_;obtain ⟨D,L⟩:∃ p,p=Q5_ d (J9_ d k) i x:=⟨_,rfl⟩;obtain ⟨E,M⟩:∃ p,p=Q5_ d (J9_ d k) i y:=⟨_,rfl⟩;rw [← L] at c1;rw [← M] at c2;obtain ⟨o,Z⟩:∃ o,o=min D E:=⟨_,rfl⟩;have x3:Hid (Q5_ d (J9_ d k) (i+1)=fun j=>if j=y then o else if j=x then o else Q5_ d (J9_ d k) i j):=by
        show _=_;rw [R.out,Z,L,M];rfl
       clear L M;have x4:(o=D∧D≤E)∨(o=E∧E<D):=q41_;clear Z;have x8:=hid (fun W (h:Labels W g m (Q5_ d (J9_ d k) i))=>(h.set x o).set y o);go_wp2
       go_quiet (fail)
       go_wp2;rcases x4 with ⟨rfl,x6⟩ | ⟨rfl,x6⟩
       all_goals
        go_quiet (fail)
        generalize G:wr.drewN _=W;have u:Labels W g m (Q5_ d (J9_ d k) i):=by rw [← G];exact Hlab.out
        have U:Below w.heap.size w W:=by rw [← G];exact Y2_ Hbr.out _
        clear G;have d1:=u.cell hx;have e1:=u.frozen x;have X:=u.set x o;have d2:=u.cell hy;have e2:=u.frozen y;have Y:=X.set y o;have Hl3:=hid (Y.congr (f':=Q5_ d (J9_ d k) (i+1)) (fun j _=>by rw [x3.out]));have Hbw:=hid U;clear u X Y U;by_cases z:x=y
        ·subst z
         exact j13_
        ·have xf:¬ y=x:=fun h=>z h.symm
         exact j13_
      ·have x5:i=d.length:=by omega
       have x1:=hid (Hlab.out.congr (f':=J9_ d (k+1)) (fun j _=>by unfold Q5_;rw [x5,List.take_length];rfl));go_wp2
       go_roundw
       case rel=>exact ⟨k+1,z42_,q41_,x1.out,Hbr.out⟩
       case measure=>simp [intOf];omega
    ·have J:k=m:=by omega
     have Hfin:=hid (Hlab.out.congr (f':=compF d) (fun j hj=>by rw [J];exact Ya0 Q.out j hj));exact k28_
open Go.RowKit
theorem Fam.push {w:World} {B:Nat} {c:List Value} {pp:List (List Int)} (h:Fam w B c pp) {u:Value} {q:List Int} (s:w.ownsRow B 3 1 u q.length (ints q)) (hd:∀ v∈c,v.ownBlock=none∨v.ownBlock≠u.ownBlock):Fam w B (c ++ [u]) (pp ++ [q]):=by
 have g:∀ (i:Nat) (v:Value),¬ i<c.length→(c ++ [u])[i]?=some v→i=c.length∧v=u:=by
  intro i v hi hv;have o:i=c.length:=x19_;subst o;rw [List.getElem?_append_right (Nat.le_refl _)] at hv;simp at hv;exact ⟨rfl,hv.symm⟩
 refine ⟨by simp [h.1],fun i v p hv hp=>?_,fun i j v z hv d r=>?_⟩
 ·by_cases hi:i<c.length
  ·exact z18_
  ·obtain ⟨rfl,rfl⟩:=g i v hi hv
   rw [h.1,List.getElem?_append_right (Nat.le_refl _)] at hp;simp at hp;subst hp;exact s
 ·by_cases hi:i<c.length
  ·rw [List.getElem?_append_left hi] at hv
   by_cases f:j<c.length
   ·rw [List.getElem?_append_left f] at d
    exact h.2.2 i j v z hv d r
   ·obtain ⟨rfl,rfl⟩:=g j z f d
    exact hd v (List.mem_of_getElem? hv)
  ·obtain ⟨rfl,rfl⟩:=g i v hi hv
   by_cases f:j<c.length
   ·rw [List.getElem?_append_left f] at d
    rcases hd z (List.mem_of_getElem? d) with m | m
    ·rcases hb:v.ownBlock with _ | k
     ·exact .inl rfl
     ·right
      rw [m];simp
    ·exact .inr fun e=>m e.symm
   ·have:=g j z f d
    omega
theorem Fam.lt {w:World} {B:Nat} {d:List Value} {pp:List (List Int)} (h:Fam w B d pp) {v:Value} (g:v∈d) {k:Nat} (f:v.ownBlock=some k):k<w.heap.size:=by
 obtain ⟨i,c,rfl⟩:=List.mem_iff_getElem.1 g;have e:i<pp.length:=by rw [← h.1];exact c
 exact ((h.2.1 i _ _ (List.getElem?_eq_getElem c) (List.getElem?_eq_getElem e)).lt k f).2
theorem Fam.outer {w w':World} {B:Nat} {e:List Value} {pp:List (List Int)} (h:Fam w B e pp) {d:Value} {b n:Nat} {m:List Value} (j:w.ownsRow b 26 1 d n m) (f:w.grownBy w' d.ownBlock):Fam w' B e pp:=by
 refine h.kept f ?_;intro v k;obtain ⟨i,c,rfl⟩:=List.mem_iff_getElem.1 k;have g:i<pp.length:=by rw [← h.1];exact c
 exact Zx4 (h.2.1 i _ _ (List.getElem?_eq_getElem c) (List.getElem?_eq_getElem g)) j x42_
def E5_ (m r:Nat) (f:Nat→Nat):List (List Nat):=(D9_ r f).map (X2_ m f)
theorem Yd5 {m r:Nat} {f:Nat→Nat} (h:f r=r):E5_ m (r+1) f=E5_ m r f ++ [X2_ m f r]:=by
 unfold E5_;rw [L7_,if_pos h,List.map_append];rfl
theorem Yu3 {m r:Nat} {f:Nat→Nat} (h:f r≠r):E5_ m (r+1) f=E5_ m r f:=by
 unfold E5_;rw [L7_,if_neg h,List.append_nil]
theorem Zh7 (m r:Nat) (f:Nat→Nat):(E5_ m r f).length≤r:=by
 have c:(E5_ m r f).length=cnt (rootB f) r:=by simp [E5_,D9_,cnt]
 rw [c];exact C4_ _ _
theorem Zp9 (m:Nat) (v:Value) (D:List (Nat × Nat)) (w:World) (M:Edges w w.heap.size v (castE D)) (K:1≤m) (L:m≤64) (h3:D.length≤4096) (h4:Lies m D) :
  Calls Tryz.prog 186 #[.int .i64 m,v] w (Yy6 w (castP (D1_ m (compF D)))):=by
 have Hr:=hid M;have Hc:=hid (Zp8 m v D w M K L h3 h4);have y2:(m:Int)≤64:=q41_;have y1:1≤(m:Int):=q41_;obtain ⟨A,c,rfl,_⟩:=M;clear h4 h3
 go_enter Tryz.func186,Tryz.ntmps186
 go_wp2_with fail
 refine Hc.out.mono ?_;rintro e w1 ⟨g,rfl,xg,hg,W⟩;generalize compF D=f at *
 have S:=hid xg;clear Hc xg Hr;have xd:g<w1.heap.size:=World.rowIs.lt S.out;obtain ⟨d,hmb⟩:∃ d,d=w1.heap.size:=⟨_,rfl⟩;have x4:Hid ((w1.alloc (.cells #[] 26)).ownsRow d 26 1 (.slice (some ⟨d,0,none⟩) 0 0) 0 []):=by
  show World.ownsRow _ _ _ _ _ _ _;rw [hmb];exact World.ownsRow_made w1 #[] 0 (Nat.le_refl _) y42_ rfl
 have x3:Hid (Below d w1 (w1.alloc (.cells #[] 26))):=q29_;have x8:Hid (d≤(w1.alloc (.cells #[] 26)).heap.size):=by
  show _≤_;rw [hmb];simp
 have Hmbw:Hid (w.heap.size≤d):=by
  show _≤_;rw [hmb];exact W.size
 have xe:g<d:=by rw [hmb];exact xd
 have Hb1:=hid W;clear W xd;go_wp2;rw [← hmb];clear hmb
 go_loopw [8,9] (fun vo vr wr=>∃ (r:Nat) (j:List Value),vr=.int .i64 r∧r≤m∧wr.ownsRow d 26 1 vo j.length j∧Fam wr d j (castP (E5_ m r f))∧Below d w1 wr∧d≤wr.heap.size) (fun _ vr _=>m - (intOf vr).toNat)
 case atStart=>exact ⟨0,[],rfl,Nat.zero_le _,x4.out,Yj3 _ _,x3.out,x8.out⟩
 case round =>
  obtain ⟨r,j,rfl,M,Y,xc,xa,N⟩:=hrel;clear x4 x3 x8;obtain ⟨vA,vc,rfl⟩:=Q3_ Y;have Hown:=hid Y;have Hfam:=hid xc;have Hbr:=hid xa;clear Y xc xa;have y5:j.length≤64:=by
   rw [Hfam.out.1,C7_];have:=Zh7 m r f;omega
  by_cases xx:r<m
  ·have hc:wr.cell? ⟨g,r,none⟩=some (.int .i64 (f r:Int)):=(Hbr.out.cell (p:=⟨g,r,none⟩) xe).trans (S.out.cell xx)
   obtain ⟨x,x1⟩:∃ x,x=f r:=⟨_,rfl⟩;rw [← x1] at hc;have Hxe:=hid x1;clear x1;have y4:(r:Int)<m:=q41_;by_cases H:x=r
   ·have Hroot:=hid H
    have xv:((x:Int) != (r:Int))=false:=by simp [H]
    clear H;obtain ⟨w0,rfl⟩:∃ w0,w0=wr:=⟨_,rfl⟩;have x5:Hid ((w0.alloc (.cells #[] 3)).ownsRow w0.heap.size 3 1 (.slice (some ⟨w0.heap.size,0,none⟩) 0 0) 0 []):=World.ownsRow_made w0 #[] 0 (Nat.le_refl _) y42_ rfl;have x2:Hid (Below w0.heap.size w0 (w0.alloc (.cells #[] 3))):=(Below.refl _ w0).alloc (Nat.le_refl _) _;have x7:Hid (w0.heap.size≤(w0.alloc (.cells #[] 3)).heap.size):=by
     show _≤_;simp
    go_wp2
    go_loopw [10,11] (fun vp vv wr=>∃ (k:Nat),vv=.int .i64 k∧k≤m∧wr.ownsRow w0.heap.size 3 1 vp (castL (X2_ k f r)).length (ints (castL (X2_ k f r)))∧Below w0.heap.size w0 wr∧w0.heap.size≤wr.heap.size) (fun _ vv _=>m - (intOf vv).toNat)
    case atStart=>exact ⟨0,rfl,Nat.zero_le _,x5.out,x2.out,x7.out⟩
    case round =>
     obtain ⟨k,rfl,hk,Z,x9,x0⟩:=hrel;clear x5 x2 x7;obtain ⟨o,s,rfl⟩:=Q3_ Z;have F:=hid Z;have C:=hid x9;clear Z x9;have xy:(castL (X2_ k f r)).length≤64:=by
      rw [Zv7];have:=T9_ k f r;omega
     by_cases xw:k<m
     ·have y3:(k:Int)<m:=by omega
      have xt:wr.cell? ⟨g,k,none⟩=some (.int .i64 (f k:Int)):=(C.out.cell (p:=⟨g,k,none⟩) (by show g<_;omega)).trans ((Hbr.out.cell (p:=⟨g,k,none⟩) xe).trans (S.out.cell xw));have G:=hid (S1_ k f r);generalize f k=y at xt G;by_cases J:y=r
      ·have xz:((y:Int)==(r:Int))=true:=by simp [J]
       have T:Hid (castL (X2_ (k+1) f r)=castL (X2_ k f r) ++ [(k:Int)]):=by
        show _=_;rw [G.out,if_pos J,Zk9]
       clear J G;generalize castL (X2_ k f r)=ps at *
       obtain ⟨B,P⟩:∃ B,B=ints ps:=⟨_,rfl⟩;have O:B.length=ps.length:=by rw [P,Y6_]
       have xp:=hid P;have x6:Hid (wr.ownsRow w0.heap.size 3 1 (.slice o ps.length s) B.length B):=by
        show World.ownsRow _ _ _ _ _ _ _;rw [O,P];exact F.out
       have xo:=hid O;have y6:B.length≤64:=by rw [O];exact xy
       clear P O;have z:=(Blk.new wr 3 #[.int .i64 (k:Int)]).cell 0;simp only [List.getElem?_toArray,List.getElem?_cons_zero] at z;have R:=hid z;clear z;have I:(wr.alloc (.cells #[.int .i64 (k:Int)] 3)).heap.size=wr.heap.size+1:=j41_;have Hsz3:=hid I;clear I
       go_wp2_with (at_builtin;refine X6_ rfl _ _ 26 3 (.int .i64 0) 8 rfl Tryz.underlying26 info3 rfl w0.heap.size _ (.int .i64 (k:Int)) B rfl (x6.out.alloc _) wr.heap.size rfl R.out rfl q41_ q41_ x47_ ?_)
       intro u5 E xf u _;have xm:Hid (E.ownsRow w0.heap.size 3 1 u5 (castL (X2_ (k+1) f r)).length (ints (castL (X2_ (k+1) f r)))):=by
        show World.ownsRow _ _ _ _ _ _ _;rw [T.out,V6_,← xp.out,List.length_append,← xo.out];exact xf
       have Q:=hid ((C.out.alloc x0 (.cells #[.int .i64 (k:Int)] 3)).grown u x47_ (fun i X=>(x6.out.lt i X).1));have V:Hid (w0.heap.size≤E.heap.size):=Nat.le_trans x47_ u.size;clear xf u;go_wp2
       go_roundw
       case rel=>exact ⟨k+1,z42_,q41_,xm.out,Q.out,V.out⟩
       case measure=>simp [intOf];omega
      ·have xz:((y:Int)==(r:Int))=false:=by rw [beq_eq_false_iff_ne];omega
       have T:Hid (X2_ (k+1) f r=X2_ k f r):=by
        show _=_;rw [G.out,if_neg J,List.append_nil]
       clear J G;go_wp2
       go_roundw
       case rel=>exact ⟨k+1,z42_,q41_,by rw [T.out];exact F.out,C.out,x0⟩
       case measure=>simp [intOf];omega
     ·obtain rfl:m=k:=by omega
      have U:=hid (Hown.out.kept (Z7_ C.out none) (by
       rcases (Value.slice vA j.length vc).ownBlock with _ | q
       ·exact .inl rfl
       ·exact .inr j41_))
      have xk:=hid (Hfam.out.new (Z7_ C.out none));have z:=(Blk.new wr 26 #[.slice o (castL (X2_ m f r)).length s]).cell 0;simp only [List.getElem?_toArray,List.getElem?_cons_zero] at z;have R:=hid z;clear z;have I:(wr.alloc (.cells #[.slice o (castL (X2_ m f r)).length s] 26)).heap.size=wr.heap.size+1:=j41_;have Hsz3:=hid I;clear I
      go_wp2_with (at_builtin;refine X6_ rfl _ _ 22 26 (.slice none 0 0) 24 rfl Tryz.underlying22 Yy5 rfl d _ (.slice o (castL (X2_ m f r)).length s) j rfl (U.out.alloc _) wr.heap.size rfl R.out rfl q41_ q41_ x47_ ?_)
      intro y0 E xh u _;have xb:Below d w1 wr:=Hbr.out.trans (C.out.mono N);have xj:d≤wr.heap.size:=Nat.le_trans N x0;have xn:Hid (E.ownsRow d 26 1 y0 (j ++ [Value.slice o (castL (X2_ m f r)).length s]).length (j ++ [Value.slice o (castL (X2_ m f r)).length s])):=by
       show World.ownsRow _ _ _ _ _ _ _;rw [List.length_append];exact xh
      have xi:wr.ownsRow d 3 1 (.slice o (castL (X2_ m f r)).length s) (castL (X2_ m f r)).length (ints (castL (X2_ m f r))):=⟨F.out.1,by
       rcases F.out.2 with h | ⟨g',xq,xr,K,L,h3⟩
       ·exact .inl h
       ·exact .inr ⟨g',xq,xr,K,Nat.le_trans N L,h3⟩⟩
      have xl:Hid (Fam E d (j ++ [Value.slice o (castL (X2_ m f r)).length s]) (castP (E5_ m (r+1) f))):=by
       show Fam _ _ _ _;rw [Yd5 k51_];have xu:castP (E5_ m r f ++ [X2_ m f r])=castP (E5_ m r f) ++ [castL (X2_ m f r)]:=by simp [castP]
       rw [xu];refine Fam.outer (w:=wr.alloc (.cells #[.slice o (castL (X2_ m f r)).length s] 26)) ?_ (U.out.alloc _) u;refine Fam.new (w:=wr) ?_ (World.grownBy_alloc _ _ none);refine xk.out.push xi ?_;intro v hv;rcases hb:v.ownBlock with _ | q
       ·exact .inl rfl
       ·right
        have K:=Hfam.out.lt hv hb;intro he;have L:=(F.out.lt q he.symm).1;omega
      have Q:=hid ((xb.alloc xj (.cells #[.slice o (castL (X2_ m f r)).length s] 26)).grown u x47_ (fun i X=>(U.out.lt i X).1));have V:Hid (d≤E.heap.size):=Nat.le_trans x47_ u.size;clear xh u xb xj xi;go_wp2
      go_roundw
      case rel=>exact ⟨r+1,_,z42_,q41_,xn.out,xl.out,Q.out,V.out⟩
      case measure=>simp [intOf];omega
   ·have Hroot:=hid H
    have xv:((x:Int) != (r:Int))=true:=by rw [bne_iff_ne];omega
    clear H;go_wp2
    go_roundw
    case rel=>exact ⟨r+1,j,z42_,q41_,Hown.out,by rw [Yu3 k51_];exact Hfam.out,Hbr.out,N⟩
    case measure=>simp [intOf];omega
  ·have hke:r=m:=by omega
   exact q17_
open Go.RowKit
theorem Yy8 (m:Nat) (v:Value) (d:List (Nat × Nat)) (w:World) (h:Edges w w.heap.size v (castE d)) (p:1≤m) (q:m≤64) (h3:d.length≤4096) (g:Lies m d) :
  Calls Tryz.prog 181 #[.int .i64 m,v] w (Vq5 w (rankN m d)):=by
 have o:=hid (Zp9 m v d w h p q h3 g);have y:(m:Int)≤64:=q41_;have x:1≤(m:Int):=q41_;obtain ⟨A,c,rfl,_⟩:=h;clear g h3
 go_enter Tryz.func181,Tryz.ntmps181
 go_wp2_with fail
 refine o.out.mono ?_;rintro e D ⟨C,rfl,s,r⟩;obtain ⟨u,c1,rfl,_⟩:=s;rw [C7_,A5_];have z:=C4_ (rootB (compF d)) m;have j:Hid ((m:Int) - (cnt (rootB (compF d)) m:Int)=rankN m d):=rfl;generalize cnt (rootB (compF d)) m=k at *
 have B:(k:Int)≤m:=q41_;go_wp2;go_ret;exact ⟨by rw [← j.out];rfl,r⟩
theorem Zh8 (m:Nat) (v:Value) (d:List (Nat × Nat)) (w:World) (h:Edges w w.heap.size v (castE d)) (p:1≤m) (q:m≤64) (h3:d.length≤4096) (g:Lies m d) (b:Bool) (hb:(rankN m d==(d.length:Int))=b) :
  Calls Tryz.prog 156 #[.int .i64 m,v] w (Says w b):=by
 have o:=hid (Yy8 m v d w h p q h3 g);have k:=hid hb;obtain ⟨A,c,j,_⟩:=h;rw [V3_] at j;subst j;have u:(d.length:Int)≤4096:=q41_;clear g h3 hb
 go_enter Tryz.func156,Tryz.ntmps156
 go_wp2_with fail
 refine o.out.mono ?_;rintro e x ⟨rfl,s⟩;generalize rankN m d=r at *
 go_wp2;go_ret;exact ⟨by rw [← k.out];rfl,s⟩
end Wp
end Go.Proofs.YtnbcaibflhgdoaaGreatDoor
