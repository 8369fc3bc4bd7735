/- Graphs in memory, and the program's components, walked. The program's parts and rank of a graph, walked. -/
import Derived.Test.YtigobiacbficaaaGreatDoorZP
import Derived.Test.YtigobiacbficaaaGreatDoorZA
import Derived.Deep.Slices
import Derived.Deep.OwnRows
import Derived.LoopN
import Derived.StillTailTactics
import Derived.Maps.OwnOps
import Derived.Maps.Views
import Derived.Test.YtigobiacbficaaaGreatDoorX0A
import Derived.Test.YtigobiacbficaaaGreatDoorX0B
set_option maxHeartbeats 8000000
set_option maxRecDepth 100000
open Go.Lib (hid)
namespace Go.Proofs.YtigobiacbficaaaGreatDoor.Wp
private theorem k18_ {P:Prop} (h:P:=by
 have Hr2:=hid (Hfam.out.rows Hown.out)
 subst hke
 go_wp2
 go_ret2
 refine ⟨_,rfl,Hr2.out,Hb1.out.trans (Hbr.out.mono Hmbw.out)⟩):P:=h
private theorem z29_ {P:Prop} (h:P:=by
 go_wp2
 go_ret2
 exact ⟨g,rfl,Hfin.out,Hgs.out,Hbr.out⟩):P:=h
open Go.RowKit
def Edges (w:World) (B:Nat) (v:Value) (es:List (Int × Int)):Prop :=
 ∃ A c,v=.slice A es.length c∧(es.length≤c∧c≤maxLen∧(A=none→c=0)) ∧
  ∀ k,k<es.length→∃ ad:Addr,A=some ad∧ad.block<B∧w.cell? (ad.add (k * 2))=some (.int .i64 (es.getD k (0,0)).1)∧w.cell? ⟨(ad.add (k * 2)).block,(ad.add (k * 2)).off+1,none⟩=some (.int .i64 (es.getD k (0,0)).2)
open Go.RowKit
def okE (n:Int) (e:Int × Int):Bool:=decide (0≤e.1∧e.1<n∧0≤e.2∧e.2<n)
def sizeB (n:Int) (es:List (Int × Int)):Bool:=decide (1≤n∧n≤64∧es.length≤4096)
def isG (n:Int) (es:List (Int × Int)):Bool:=sizeB n es && es.all (okE n)
theorem Jy7 {n:Int} {es:List (Int × Int)} (h:¬ (1≤n∧n≤64∧es.length≤4096)):isG n es=false:=by
 unfold isG sizeB;rw [decide_eq_false h];rfl
theorem Zd0 {es:List (Int × Int)} {k:Nat} (c:k<es.length):es.getD k (0,0)=es[k]:=by simp [List.getD,c]
theorem isG_bad {n:Int} {es:List (Int × Int)} {k:Nat} (c:k<es.length) (h:okE n (es.getD k (0,0))=false):isG n es=false:=by
 unfold isG;rw [Bool.and_eq_false_iff];right;rw [← Bool.not_eq_true,List.all_eq_true];intro h2;have:=h2 _ (List.getElem_mem c);rw [Zd0 c,this] at h;cases h
def Zk7 (n:Int) (es:List (Int × Int)) (k:Nat):Prop:=∀ j,j<k→okE n (es.getD j (0,0))=true
theorem Zd1 {n:Int} {es:List (Int × Int)} {k:Nat} (h:Zk7 n es k) (d:okE n (es.getD k (0,0))=true):Zk7 n es (k+1):=by
 intro j e;by_cases c:j=k
 ·rw [c];exact d
 ·exact h j y40_
theorem isG_end {n:Int} {es:List (Int × Int)} (c:1≤n∧n≤64∧es.length≤4096) {k:Nat} (d:k=es.length) (h:Zk7 n es k):isG n es=true:=by
 unfold isG sizeB;rw [decide_eq_true c,Bool.true_and,List.all_eq_true];exact j24_
theorem idx0 (x y:Int) (w:World):(Instr.index 108 (.agg #[.int .i64 x,.int .i64 y]) (.int .i64 0)).run Tryz.prog w=.ok (.int .i64 x) w:=z40_
theorem idx1 (x y:Int) (w:World):(Instr.index 108 (.agg #[.int .i64 x,.int .i64 y]) (.int .i64 1)).run Tryz.prog w=.ok (.int .i64 y) w:=z40_
theorem Xx2 (n:Int) (v:Value) (es:List (Int × Int)) (w:World) (M:Edges w w.heap.size v es) (K:1≤n) (L:n≤64) (J:es.length≤4096) :
  Calls Tryz.prog 156 #[.int .i64 n,v] w (Says w (isG n es)):=by
 obtain ⟨A,c,rfl,_,u⟩:=M;have q:=hid u;clear u;have p:=hid (fun k=>@isG_bad n es k);have E:=hid (fun k=>@isG_end n es ⟨K,L,J⟩ k);have R:=idx0;have S:=idx1;have Q:(es.length:Int)≤4096:=y40_
 go_enter Tryz.func156,Tryz.ntmps156
 go_wp2
 go_loopw [22] (fun o wr=>∃ k:Nat,o=.int .i64 k∧k≤es.length∧Below w.heap.size w wr∧Zk7 n es k) (fun o _=>es.length - (intOf o).toNat)
 case atStart=>exact ⟨0,rfl,Nat.zero_le _,Below.refl _ _,fun j I=>absurd I y40_⟩
 case round =>
  obtain ⟨k,rfl,P,D,C⟩:=hrel;have Hwr:=hid D;clear D;have r:=hid C;clear C;by_cases B:k<es.length
  ·obtain ⟨ad,H,hab,s,h2⟩:=q.out k B
   subst H;have N:wr.cell? (ad.add (k * 2))=some (.int .i64 (es.getD k (0,0)).1):=((Hwr.out).cell x42_).trans s;have O:wr.cell? ⟨(ad.add (k * 2)).block,(ad.add (k * 2)).off+1,none⟩=some (.int .i64 (es.getD k (0,0)).2):=((Hwr.out).cell j48_).trans h2;have Hno:=hid (p.out k B);have G:=hid (Zd1 (n:=n) (es:=es) (k:=k) r.out);clear s h2 p q;have He:Hid (okE n (es.getD k (0,0))=decide (0≤(es.getD k (0,0)).1∧(es.getD k (0,0)).1<n∧0≤(es.getD k (0,0)).2∧(es.getD k (0,0)).2<n)):=rfl;generalize (es.getD k (0,0)).1=x at *
   generalize (es.getD k (0,0)).2=y at *
   by_cases e:0≤x∧x<n
   ·obtain ⟨hx1,hx2⟩:=e
    by_cases h:0≤y∧y<n
    ·obtain ⟨hy1,hy2⟩:=h
     have Hx:Hid (okE n (es.getD k (0,0))=true):=y28_;go_wp2;refine wp_loop_rounds 3 ?_;rw [rounds_succ];go_wp2;rw [rounds_succ];go_wp2;rw [rounds_succ];go_wp2
     go_roundw
     case rel=>exact ⟨k+1,j41_,y40_,(Hwr.out).alloc (Hwr.out).size _,G.out Hx.out⟩
     exact mz_
    ·have Hx:Hid (okE n (es.getD k (0,0))=false):=by
      show okE n (es.getD k (0,0))=false;rw [He.out,decide_eq_false_iff_not];rintro ⟨_,_,h3,d⟩;exact h ⟨h3,d⟩
     have m:y<0∨n≤y:=y40_;clear h;rcases m with m | m
     ·exact j36_
     ·have hy2:0≤y:=by omega
      exact j36_
   ·have Hx:Hid (okE n (es.getD k (0,0))=false):=by
     show okE n (es.getD k (0,0))=false;rw [He.out,decide_eq_false_iff_not];rintro ⟨h3,d,_⟩;exact e ⟨h3,d⟩
    have g:x<0∨n≤x:=y40_;clear e;rcases g with g | g
    ·go_wp2
     refine wp_loop_rounds 3 ?_;exact z8_
    ·have hx2:0≤x:=by omega
     go_wp2;refine wp_loop_rounds 3 ?_;exact z8_
  ·have z:k=es.length:=by omega
   have F:=hid (E.out k z r.out);subst z;go_wp2;go_ret;exact X7_ F.out rfl Hwr.out
theorem Yg9 (n:Int) (v:Value) (es:List (Int × Int)) (w:World) (d:Edges w w.heap.size v es) (hl:es.length≤1048576) :
  Calls Tryz.prog 156 #[.int .i64 n,v] w (Says w (isG n es)):=by
 by_cases h:1≤n∧n≤64∧es.length≤4096
 ·exact Xx2 n v es w d h.1 h.2.1 h.2.2
 ·have Hno:=hid (Jy7 h)
  have g:=hid d;obtain ⟨A,c,rfl,_⟩:=d;have k:(es.length:Int)≤1048576:=y40_;have h3:n<1∨(1≤n∧64<n)∨(1≤n∧n≤64∧4096<(es.length:Int)):=y40_;clear h;rcases h3 with h3 | ⟨h3,e⟩ | ⟨h3,e,j⟩
  ·exact x10_
  ·exact x10_
  ·exact x10_
theorem Xx3 (n:Int) (v:Value) (es:List (Int × Int)) (w:World) (c:Edges w w.heap.size v es) (hl:es.length≤1048576) {b:Bool} (hb:isG n es=b) :
  Calls Tryz.prog 156 #[.int .i64 n,v] w (Says w b):=by
 subst hb;exact Yg9 n v es w c hl
open Go.RowKit
def Labels (w:World) (g n:Nat) (f:Nat→Nat):Prop:=w.rowIs g 3 n fun i=>.int .i64 (f i:Int)
theorem Labels.congr {w:World} {g n:Nat} {f f':Nat→Nat} (h:Labels w g n f) (e:∀ i,i<n→f i=f' i):Labels w g n f':=World.rowIs.congr h fun i c=>by rw [e i c]
theorem Labels.set {w:World} {g n:Nat} {f:Nat→Nat} (h:Labels w g n f) (i:Nat) (v:Nat):Labels (w.setCell ⟨g,i,none⟩ (.int .i64 (v:Int))) g n (fun j=>if j=i then v else f j) :=
 World.rowIs.congr (World.rowIs.set h i _) fun j _=>k20_
def Vh0 (w:World) (g n:Nat) (f:Nat→Nat) (e:Ending) (w':World):Prop:=e=.returned (.tuple #[])∧Labels w' g n f∧w.grownBy w' (some g)
theorem Xx4 {f f':Nat→Nat} {lo e k:Nat} (h:f'=fun v=>if f v=e then lo else f v) :
  (f k=e→(fun j=>if j=k then lo else if j<k then f' j else f j)=fun j=>if j<k+1 then f' j else f j)∧(f k≠e→(fun j=>if j<k then f' j else f j)=fun j=>if j<k+1 then f' j else f j):=by
 subst h;constructor
 ·intro g
  funext j
  by_cases c:j=k
  ·subst c;simp [g]
  ·by_cases d:j<k
   ·simp [c,d,show j<k+1 by omega]
   ·simp [c,d,show ¬ j<k+1 by omega]
 ·intro g
  funext j
  by_cases c:j=k
  ·subst c;simp [g]
  ·by_cases d:j<k
   ·simp [d,show j<k+1 by omega]
   ·simp [d,show ¬ j<k+1 by omega]
theorem Yr0 (g n:Nat) (f f':Nat→Nat) (a b lo c:Nat) (s:f'=fun v=>if f v=c then lo else f v) (I:lo<c) (D:(lo=a∧c=b)∨(c=a∧lo=b)) (w:World) (r:Labels w g n f) (J:n≤64) :
  Calls Tryz.prog 157 #[.slice (some ⟨g,0,none⟩) n n,.int .i64 a,.int .i64 b] w (Vh0 w g n f'):=by
 have B:=hid r;clear r;have m:=hid (fun k=>Xx4 (k:=k) s);clear s;have K:(n:Int)≤64:=y40_;have L:((lo:Int)==(c:Int))=false:=by rw [beq_eq_false_iff_ne];omega
 have M:((c:Int)==(lo:Int))=false:=by rw [beq_eq_false_iff_ne];omega
 have N:¬ c<lo:=y40_;rcases D with ⟨q,h2⟩ | ⟨q,h2⟩
 all_goals
  subst q;subst h2
  go_enter Tryz.func157,Tryz.ntmps157
  go_wp2
  go_loopw [21] (fun h wr=>∃ k:Nat,h=.int .i64 k∧k≤n∧Labels wr g n (fun j=>if j<k then f' j else f j)∧w.grownBy wr (some g)) (fun h _=>n - (intOf h).toNat)
  case atStart=>exact ⟨0,rfl,Nat.zero_le _,B.out.congr (fun i _=>by simp),World.grownBy.refl _ _⟩
  case round =>
   obtain ⟨k,rfl,H,y,u⟩:=hrel;have d:=hid y;have e:=hid u;clear y u;by_cases F:k<n
   ·have hc:wr.cell? ⟨g,k,none⟩=some (.int .i64 (f k:Int)):=by
     have:=d.out.cell F;simpa using this
    have G:wr.frozen? ⟨g,k,none⟩=false:=d.out.frozen k;have o:=hid (m.out k).1;have p:=hid (m.out k).2;have C:=hid (fun v=>d.out.set k v);generalize f k=x at hc o p;by_cases z:x=c
    ·subst z
     go_wp2
     go_roundw
     case rel =>
      refine ⟨k+1,j41_,y40_,?_,Yz7 e.out (.inl rfl) _⟩;rw [← o.out rfl];exact C.out _
     case measure=>simp [intOf];omega
    ·have O:((x:Int)==(c:Int))=false:=by rw [beq_eq_false_iff_ne];omega
     go_wp2
     go_roundw
     case rel=>exact ⟨k+1,j41_,y40_,by rw [← p.out z];exact d.out,e.out⟩
     exact mz_
   ·have E:k=n:=by omega
    subst E;go_wp2
    go_end0
    exact ⟨rfl,d.out.congr (fun i c=>by simp [c]),e.out⟩
theorem Xh1 (g n:Nat) (f:Nat→Nat) (a b:Nat) (w:World) (d:Labels w g n f) (e:n≤64) :
  Calls Tryz.prog 157 #[.slice (some ⟨g,0,none⟩) n n,.int .i64 a,.int .i64 b] w (Vh0 w g n (R5_ f a b)):=by
 rcases Nat.lt_trichotomy a b with c | c | c
 ·refine Yr0 g n f _ a b a b ?_ c (.inl ⟨rfl,rfl⟩) w d e
  funext v
  unfold R5_;rw [Nat.max_eq_right y40_,Nat.min_eq_left y40_]
 ·subst c
  rw [Zk4];have h:=hid d;clear d;have j:(n:Int)≤64:=y40_
  go_enter Tryz.func157,Tryz.ntmps157
  go_wp2;refine bodyPost_ret (results_none rfl _ _ _) rfl ?_;exact ⟨rfl,h.out,World.grownBy.refl _ _⟩
 ·refine Yr0 g n f _ a b b a ?_ c (.inr ⟨rfl,rfl⟩) w d e
  funext v
  unfold R5_;rw [Nat.max_eq_left y40_,Nat.min_eq_right y40_]
open Go.RowKit
def castE (ns:List (Nat × Nat)):List (Int × Int):=ns.map fun e=>((e.1:Int),(e.2:Int))
theorem V2_ (c:List (Nat × Nat)):(castE c).length=c.length:=by simp [castE]
theorem I8_ (c:List (Nat × Nat)) (k:Nat):(castE c).getD k (0,0)=(((c.getD k (0,0)).1:Int),((c.getD k (0,0)).2:Int)):=by
 unfold castE;rw [List.getD_eq_getElem?_getD,List.getD_eq_getElem?_getD,List.getElem?_map];rcases c[k]? with _ | e<;>rfl
theorem Vh1 {m:Nat} {c:List (Nat × Nat)} (h:1≤m) (h2:m≤64) (h3:c.length≤4096) (d:Lies m c):isG m (castE c)=true:=by
 unfold isG sizeB;rw [Bool.and_eq_true,decide_eq_true_iff,List.all_eq_true];refine ⟨⟨y40_,y40_,by rw [V2_];exact h3⟩,fun e f=>?_⟩;obtain ⟨x,g,rfl⟩:=List.mem_map.1 f;have:=d x g;simp only [okE,decide_eq_true_iff];omega
def Zd2 (w:World) (m:Nat) (f:Nat→Nat) (e:Ending) (w':World):Prop :=
 ∃ g,e=.returned (.tuple #[.slice (some ⟨g,0,none⟩) m m,.int .i64 0])∧Labels w' g m f∧w.heap.size≤g∧Below w.heap.size w w'
def E1_ (ns:List (Nat × Nat)) (k:Nat):Nat→Nat:=compF (ns.take k)
theorem Zr4 {c:List (Nat × Nat)} {k:Nat} (d:k<c.length):E1_ c (k+1)=B7_ (E1_ c k) (c.getD k (0,0)):=by
 unfold E1_;rw [List.take_succ_eq_append_getElem d,Zc1];simp [List.getD,d]
theorem Yx9 {m:Nat} {c:List (Nat × Nat)} (h:Lies m c) {k:Nat} (d:k<c.length):(c.getD k (0,0)).1<m∧(c.getD k (0,0)).2<m:=by
 have:=h c[k] (List.getElem_mem d);simpa [List.getD,d] using this
theorem Xx5 (m:Nat) (v:Value) (d:List (Nat × Nat)) (w:World) (N:Edges w w.heap.size v (castE d)) (h1:1≤m) (h2:m≤64) (h3:d.length≤4096) (z:Lies m d) :
  Calls Tryz.prog 129 #[.int .i64 m,v] w (Zd2 w m (compF d)):=by
 have X:=hid N;have R:=hid (Vh1 h1 h2 h3 z);have V:=hid z;have hl:(castE d).length≤1048576:=by rw [V2_];omega
 obtain ⟨A,c,O,_,B⟩:=N;rw [V2_] at O B;subst O;have F:=hid B;clear B z;have x2:(m:Int)≤64:=y40_;have x1:1≤(m:Int):=y40_;have x3:(d.length:Int)≤4096:=y40_;have x0:=fun W=>run_make_row' 28 3 (.int .i64 0) 8 Tryz.underlying28 info3 rfl .i64 .i64 m y40_ y40_ W
 go_enter Tryz.func129,Tryz.ntmps129
 go_wp2_with fail
 refine (Xx3 m _ (castE d) w X.out hl R.out).mono ?_;rintro e w1 ⟨rfl,r⟩;obtain ⟨g,hg⟩:∃ g,g=w1.heap.size:=⟨_,rfl⟩;have Hgs:Hid (w.heap.size≤g):=by
  show _≤_;rw [hg];exact r.size
 have T:Hid (Labels (w1.alloc (.cells (madeCells #[.int .i64 0] m) 3)) g m (fun j=>if j<0 then j else 0)):=j23_;have Q:Hid (Below w.heap.size w (w1.alloc (.cells (madeCells #[.int .i64 0] m) 3))):=r.alloc r.size _;clear r;go_wp2;rw [← hg];clear hg x0
 go_loopw [18] (fun h wr=>∃ k:Nat,h=.int .i64 k∧k≤m∧Labels wr g m (fun j=>if j<k then j else 0)∧Below w.heap.size w wr) (fun h _=>m - (intOf h).toNat)
 case atStart=>exact ⟨0,rfl,Nat.zero_le _,T.out,Q.out⟩
 case round =>
  obtain ⟨k,rfl,L,q,o⟩:=hrel;have Hlab:=hid q;have Hbr:=hid o;clear q o;by_cases hlt:k<m
  ·exact k4_
  ·have C:k=m:=by omega
   have G:=hid (Hlab.out.congr (f':=E1_ d 0) (fun i hi=>by simp [E1_,compF,show i<k by omega]));clear Hlab;go_wp2
   go_loopw [28] (fun h wr=>∃ k:Nat,h=.int .i64 k∧k≤d.length∧Labels wr g m (E1_ d k)∧Below w.heap.size w wr) (fun h _=>d.length - (intOf h).toNat)
   case atStart=>exact ⟨0,rfl,Nat.zero_le _,G.out,Hbr.out⟩
   case round =>
    clear G Hbr C hlt L;obtain ⟨k,rfl,L,q,o⟩:=hrel;have Hlab:=hid q;have Hbr:=hid o;clear q o;by_cases hlt:k<d.length
    ·obtain ⟨ad,hA,hab,q1,q2⟩:=F.out k hlt
     subst hA;rw [I8_] at q1 q2;simp only at q1 q2;have I:=(Hbr.out.cell (p:=ad.add (k * 2)) x42_).trans q1;have J:=(Hbr.out.cell (p:=⟨(ad.add (k * 2)).block,(ad.add (k * 2)).off+1,none⟩) j48_).trans q2;clear q1 q2 F;have D:=Yx9 V.out hlt;have H:=hid (Zr4 hlt);obtain ⟨⟨x,y⟩,P⟩:∃ e,e=d.getD k (0,0):=⟨_,rfl⟩;rw [← P] at I J D H;clear P;simp only at I J D;obtain ⟨hx,hy⟩:=D;have x4:(x:Int)<m:=y40_;have x5:(y:Int)<m:=y40_;have u:=Blk.new wr 108 #[.int .i64 (x:Int),.int .i64 (y:Int)];have Y:=u.cell 0;have Z:=u.cell 1;simp only [List.getElem?_toArray,List.getElem?_cons_zero,List.getElem?_cons_succ] at Y Z;have s:=hid (World.rowIs.alloc Hlab.out (.cells #[.int .i64 (x:Int),.int .i64 (y:Int)] 108));have c1:=s.out.cell hx;have c2:=s.out.cell hy;have E:=hid (Hbr.out.alloc Hbr.out.size (.cells #[.int .i64 (x:Int),.int .i64 (y:Int)] 108));clear u;go_wp2;generalize wr.alloc (.cells #[.int .i64 (x:Int),.int .i64 (y:Int)] 108)=W at *
     generalize wr.heap.size=eb at *
     go_still_tail 11,z40_
     change wpList _ _ _ _ _ W.drew
     go_wp2_with fail
     refine (Xh1 g m (E1_ d k) (E1_ d k x) (E1_ d k y) W.drew s.out h2).mono ?_;rintro e w3 ⟨rfl,M,K⟩;have U:=hid M;have S:=hid K;clear M K;go_wp2
     go_roundw
     case rel =>
      refine ⟨k+1,j41_,y40_,by rw [H.out];exact U.out,E.out.trans ?_⟩;exact ((Below.refl w.heap.size W).drew).grown S.out E.out.size (fun i hi=>by injection hi with hi;rw [← hi];exact Hgs.out)
     case measure=>simp [intOf];omega
    ·have C:k=d.length:=by omega
     have Hfin:=hid (Hlab.out.congr (f':=compF d) (fun i _=>by unfold E1_;rw [C,List.take_length]));exact z29_
open Go.RowKit Go.Maps
def castL (l:List Nat):List Int:=l.map fun v:Nat=>(v:Int)
def castP (pp:List (List Nat)):List (List Int):=pp.map castL
theorem B4_ (pp:List (List Nat)):(castP pp).length=pp.length:=by simp [castP]
theorem Vx1 {pp:List (List Nat)} {i:Nat} {p:List Nat} (h:pp[i]?=some p):(castP pp)[i]?=some (castL p):=by simp [castP,h]
theorem Xh2 (pp:List (List Nat)) (i:Nat) (p:List Nat):castP (pp.set i p)=(castP pp).set i (castL p):=by simp [castP,List.map_set]
theorem Zj3 (l:List Nat):(castL l).length=l.length:=by simp [castL]
theorem Zk8 (l:List Nat) (k:Nat):castL (l ++ [k])=castL l ++ [(k:Int)]:=by simp [castL]
def Zj4 (D:DataW Unit) (f:Nat→Nat) (k:Nat):Prop:=∀ r,r<k→f r=r→D.atKey (.int .i64 (r:Int)) (.lit (.int .i64 0))=.lit (.int .i64 (cnt (rootB f) r:Int))
theorem law3:Keyed Tryz.prog 3 := int_keyed Tryz.underlying3
theorem zero3 (w:World):(zeroValue 3).run Tryz.prog w=.ok (.int .i64 0) w:=z40_
theorem Yv0:(Tryz.prog.info? 28).map (fun i=>(i.zero,i.size,i.bytes))=some (some (.slice none 0 0),1,24):=z40_
theorem Yh0 {D:DataW Unit} {f:Nat→Nat} {k:Nat} (h:Zj4 D f k) (d:f k≠k):Zj4 D f (k+1):=by
 intro r g c;by_cases e:r=k
 ·subst e;exact absurd c d
 ·exact h r y40_ c
theorem isMap_of {w:World} {b n:Nat} {D:DataW Unit} (h:w.ownsMap Tryz.prog 3 (plainElem Tryz.prog 3) b n D):IsMap D:=by
 obtain ⟨_,_,_,_,_,c⟩:=h;exact ⟨_,c⟩
theorem Xx6 {D:DataW Unit} {f:Nat→Nat} {k:Nat} (h:Zj4 D f k) (c:IsMap D):Zj4 (D.put (.int .i64 (k:Int)) (.lit (.int .i64 (cnt (rootB f) k:Int)))) f (k+1):=by
 intro r j d;by_cases g:r=k
 ·subst g
  exact atKey_put_same c (show WideAt.IsKeyLit (.int .i64 (r:Int)) from trivial) _ _
 ·rw [atKey_put_other (by intro e;injection e;omega)]
  exact h r y40_ d
def Yv1 (w:World) (pp:List (List Int)) (e:Ending) (w':World):Prop :=
 ∃ v,e=.returned (.tuple #[v,.int .i64 0])∧Rows2 w' w'.heap.size v pp∧Below w.heap.size w w'
theorem Xx7 (m:Nat) (v:Value) (F:List (Nat × Nat)) (w:World) (I:Edges w w.heap.size v (castE F)) (h1:1≤m) (h2:m≤64) (h3:F.length≤4096) (h4:Lies m F) :
  Calls Tryz.prog 101 #[.int .i64 m,v] w (Yv1 w (castP (B8_ m (compF F)))):=by
 have Hr:=hid I;have Hc:=hid (Xx5 m v F w I h1 h2 h3 h4);have yy:(m:Int)≤64:=y40_;have yx:1≤(m:Int):=y40_;have O:=hid (Xf9 F);have N:=hid (Yx2 F);obtain ⟨A,c,rfl,_⟩:=I;clear h4 h3;have yr:=@run_makeMap Tryz.prog
 go_enter Tryz.func101,Tryz.ntmps101
 go_wp2_with fail
 refine Hc.out.mono ?_;rintro e w1 ⟨g,rfl,xx,hg,xa⟩;generalize compF F=f at *
 have xk:=hid xx;clear Hc xx Hr;have xv:g<w1.heap.size:=World.rowIs.lt xk.out;obtain ⟨d,hmb⟩:∃ d,d=w1.heap.size:=⟨_,rfl⟩;have xl:Hid ((w1.alloc (.map #[] 0)).ownsMap Tryz.prog 3 (plainElem (H:=Unit) Tryz.prog 3) d 0 (.map [])):=by
  show World.ownsMap _ _ _ _ _ _ _;rw [hmb];exact World.ownsMap_made w1 Tryz.prog 3 _
 have xg:Hid (Below d w1 (w1.alloc (.map #[] 0))):=j29_;have xo:Hid (d+1≤(w1.alloc (.map #[] 0)).heap.size):=by
  show _≤_;rw [hmb];simp
 have Hmbw:Hid (w.heap.size≤d):=by
  show _≤_;rw [hmb];exact xa.size
 have yn:g<d:=by rw [hmb];exact xv
 have Hb1:=hid xa;clear xa xv;go_wp2;rw [← hmb];have yw:=hid hmb;clear hmb yr
 go_loopw [8,25] (fun vp vk wr=>∃ (k:Nat) (vs:List Value) (D:DataW Unit),vk=.int .i64 k∧k≤m∧wr.ownsRow (d+1) 28 1 vp vs.length vs∧Fam wr (d+1) vs (castP (B8_ k f)) ∧
   wr.ownsMap Tryz.prog 3 (plainElem Tryz.prog 3) d k D∧Zj4 D f k∧Below d w1 wr∧d+1≤wr.heap.size) (fun _ vk _=>m - (intOf vk).toNat)
 case atStart=>exact ⟨0,[],.map [],rfl,Nat.zero_le _,World.ownsRow_nil _ _ _ _,Ye4 _ _,xl.out,fun r I=>absurd I y40_,xg.out,xo.out⟩
 case round =>
  obtain ⟨k,vs,D,rfl,hk,xe,xu,xz,Z,xr,y5⟩:=hrel;clear xl xg xo;obtain ⟨vA,vc,rfl⟩:=A6_ xe;have Hown:=hid xe;have Hfam:=hid xu;have x5:=hid xz;have xn:=hid Z;have Hbr:=hid xr;clear xe xu xz Z xr;by_cases yq:k<m
  ·have hc:wr.cell? ⟨g,k,none⟩=some (.int .i64 (f k:Int)):=(Hbr.out.cell (p:=⟨g,k,none⟩) (yn)).trans (xk.out.cell yq)
   have x9:Hid (vs.length=cnt (rootB f) k):=by
    show _=_;rw [Hfam.out.1,B4_,Q5_]
   have z2:vs.length≤64:=by
    rw [x9.out];have:=A8_ (rootB f) k;omega
   have z3:(vs.length:Int)≤64:=y40_;obtain ⟨x,U⟩:∃ x,x=f k:=⟨_,rfl⟩;rw [← U] at hc;have z5:x≤k:=by rw [U];exact O.out k
   have yc:Hid (f x=x):=by
    show f x=x;rw [U];exact N.out k
   have xq:=hid (WalkArith.wf_i64 (n:=(x:Int)) y40_);have yj:=hid (WalkArith.wf_i64 (n:=(vs.length:Int)) y40_);have Hxe:=hid U;clear U;by_cases R:x=k
   case' pos =>
    have Hroot:=hid R;have yp:((k:Int)==(x:Int))=true:=by simp [R]
    clear R
    go_wp2_with (at_mapUpdate;refine wpList_mapUpdate_own _ rfl _ _ _ 126 rfl 3 3 law3 Tryz.underlying126 _ d k _ rfl x5.out z41_ _ _ _ rfl rfl (keyOf_int_mk Tryz.underlying3 xq.out) _ [] (plainElem_int Tryz.underlying3 yj.out) ?_)
    intro w2 y0 xw;have xm:=hid y0;have M:=hid xw;clear y0 xw;have yt:d+1≤w2.heap.size:=Nat.le_trans y5 M.out.size;have y9:∀ q,(Value.slice vA vs.length vc).ownBlock=some q→d+1≤q:=fun q hq=>(Hown.out.lt q hq).1;have X:=hid y9;clear y9;have x7:=hid (Hown.out.kept M.out (by
     rcases hb:(Value.slice vA vs.length vc).ownBlock with _ | q
     ·exact .inl rfl
     ·right
      intro B;injection B with B;have:=X.out q hb;omega))
    have W:=hid (Hfam.out.apart M.out y40_);have xh:=hid (Hbr.out.grown M.out y40_ (fun i o=>by injection o with o;omega));have G:=(Blk.new w2 28 #[.slice none 0 0]).cell 0;simp only [List.getElem?_toArray,List.getElem?_cons_zero] at G;have V:=hid G;clear G
    go_wp2_with (at_builtin;refine X6_ rfl _ _ 22 28 (.slice none 0 0) 24 rfl Tryz.underlying22 Yv0 rfl (d+1) _ (.slice none 0 0) vs rfl (x7.out.alloc _) w2.heap.size rfl V.out rfl y40_ y40_ x41_ ?_)
    intro yv j y2 Q _;obtain ⟨s,hD⟩:∃ s,s=D.put (.int .i64 (x:Int)) (.lit (.int .i64 (vs.length:Int))):=⟨_,rfl⟩;have x8:Hid (Zj4 s f (k+1)):=by
     show Zj4 _ _ _;rw [hD,Hroot.out,x9.out];exact Xx6 xn.out (isMap_of x5.out)
    have x6:Hid (j.ownsMap Tryz.prog 3 (plainElem Tryz.prog 3) d (k+1) s):=by
     show World.ownsMap _ _ _ _ _ _ _;rw [hD];refine (xm.out.alloc _).kept Q ?_;intro B;have:=X.out d B.symm;omega
    have xi:=hid ((xh.out.alloc y40_ (.cells #[.slice none 0 0] 28)).grown Q x41_ (fun i o=>by have:=X.out i o;omega));have yu:d+1≤j.heap.size:=Nat.le_trans x41_ Q.size;obtain ⟨vt,x0⟩:∃ vt,vt=vs ++ [.slice none 0 0]:=⟨_,rfl⟩;have K:Hid (j.ownsRow (d+1) 28 1 yv vt.length vt):=by
     show World.ownsRow _ _ _ _ _ _ _;rw [x0,List.length_append];exact y2
    have L:Hid (Fam j (d+1) vt (castP (X9_ k f))):=by
     show Fam _ _ _ _;have I:castP (X9_ k f)=castP (B8_ k f) ++ [[]]:=by
      unfold X9_;rw [← Hxe.out,if_pos Hroot.out];simp [castP,castL]
     rw [x0,I];refine Fam.more ?_;refine (W.out.new (World.grownBy_alloc _ (.cells #[.slice none 0 0] 28) none)).kept Q ?_;intro v S;obtain ⟨i,o,rfl⟩:=List.mem_iff_getElem.1 S;have xd:i<(castP (B8_ k f)).length:=by rw [← W.out.1];exact o
     exact Zv8 (W.out.2.1 i _ _ (List.getElem?_eq_getElem o) (List.getElem?_eq_getElem xd)) x7.out q41_
    have T:0<vt.length:=by rw [x0,List.length_append];simp
    obtain ⟨go,P,rfl,yo⟩:=K9_ K.out T;clear hD x0 T y2 Q V xh W x7 X xm M yt
   case' neg =>
    have Hroot:=hid R;have yp:((k:Int)==(x:Int))=false:=by rw [beq_eq_false_iff_ne];omega
    clear R;obtain ⟨j,rfl⟩:∃ j,j=wr:=⟨_,rfl⟩;obtain ⟨vt,rfl⟩:∃ vt,vt=vs:=⟨_,rfl⟩;obtain ⟨s,rfl⟩:∃ s,s=D:=⟨_,rfl⟩;have x8:Hid (Zj4 s f (k+1)):=Yh0 xn.out z51_;have x6:=hid (x5.out.mono (Nat.le_succ k));have xi:=Hbr;have yu:=y5;have K:=Hown;have L:Hid (Fam j (d+1) vt (castP (X9_ k f))):=by
     show Fam _ _ _ _;unfold X9_;rw [← Hxe.out,if_neg Hroot.out];exact Hfam.out
    have T:0<vt.length:=by
     rw [L.out.1,B4_];exact Nat.lt_of_le_of_lt (Nat.zero_le _) (Yf9 (k:=k) O.out N.out)
    obtain ⟨go,P,S,yo⟩:=K9_ K.out T;injection S with hv1 _ hv2;subst hv1;obtain rfl:P=vc:=hv2.symm;clear T
   all_goals
    go_wp2_with (at_lookup;refine wpList_lookup_own_int _ rfl _ _ 126 rfl 3 3 .i64 law3 Tryz.underlying126 Tryz.underlying3 (zero3 _) d (k+1) s rfl x6.out _ _ rfl (keyOf_int_mk Tryz.underlying3 xq.out) ?_)
    intro c y _;rw [x8.out x y40_ yc.out] at y;obtain rfl:c=(cnt (rootB f) x:Int):=by injection y with y;injection y with _ y;exact y.symm
    clear y;have y3:cnt (rootB f) x<(X9_ k f).length:=by rw [Hxe.out];exact Yf9 O.out N.out
    have y:(X9_ k f)[cnt (rootB f) x]?=some (X3_ k f x):=by rw [Hxe.out];exact Vn7 O.out N.out
    have yg:Hid (castP (B8_ (k+1) f)=(castP (X9_ k f)).set (cnt (rootB f) x) (castL (X3_ k f x) ++ [(k:Int)])):=by
     show _=_;rw [Xy3 O.out N.out,Xh2,Zk8,← Hxe.out]
    generalize cnt (rootB f) x=q at *
    have xf:vt.length=(X9_ k f).length:=by rw [L.out.1,B4_]
    have ys:q<vt.length:=by rw [xf];exact y3
    have z4:vt.length≤65:=by
     rw [xf,Zc3];have:=A8_ (rootB f) (k+1);omega
    have hu:vt[q]?=some vt[q]:=List.getElem?_eq_getElem ys;have Y:=L.out.2.1 q _ _ hu (Vx1 y);have xt:=K.out.cells (g:=go) rfl q _ hu;have ym:j.cell? ⟨go,q,none⟩=some vt[q]:=by
     rw [← xt];unfold Addr.add;split<;>simp_all
    clear xt;have Z:(castL (X3_ k f x)).length≤64:=by
     rw [Zj3];have:=U2_ k f x;omega
    generalize vt[q]=u at *
    have z1:(q:Int)<(vt.length:Int):=y40_;obtain ⟨h,x2⟩:∃ h,h=ints (castL (X3_ k f x)):=⟨_,rfl⟩;have x1:h.length=(castL (X3_ k f x)).length:=by rw [x2,Y7_]
    rw [← x2,← x1] at Y;rw [← x1] at Z;obtain ⟨uA,uc,rfl⟩:=A6_ Y;have x4:=hid Y;have Hu:=hid hu;have yl:=hid x2;have yk:=hid x1;clear Y hu y y3 xf x9 x2 x1;have G:=(Blk.new j 3 #[.int .i64 (k:Int)]).cell 0;simp only [List.getElem?_toArray,List.getElem?_cons_zero] at G;have V:=hid G;clear G;have y7:(j.alloc (.cells #[.int .i64 (k:Int)] 3)).heap.size=j.heap.size+1:=k40_;have Hsz3:=hid y7;have y8:∀ i,(Value.slice uA h.length uc).ownBlock=some i→d+1≤i:=fun i o=>(x4.out.lt i o).1;have xp:=hid y8;clear y7 y8
    go_wp2_with (at_builtin;refine X6_ rfl _ _ 28 3 (.int .i64 0) 8 rfl Tryz.underlying28 info3 rfl (d+1) _ (.int .i64 (k:Int)) h rfl (x4.out.alloc _) j.heap.size rfl V.out rfl y40_ y40_ x47_ ?_)
    intro u5 z xc xb xy;have x3:=hid ((World.grownBy_alloc j (.cells #[.int .i64 (k:Int)] 3) (Value.slice uA h.length uc).ownBlock).trans xb);have y1:(Value.slice (some ⟨go,0,none⟩) vt.length P).ownBlock=none∨(Value.slice (some ⟨go,0,none⟩) vt.length P).ownBlock≠(Value.slice uA h.length uc).ownBlock:=Zv8 K.out x4.out q41_;have J:=hid (K.out.kept x3.out y1);have yz:z.cell? ⟨go,q,none⟩=some (.slice uA h.length uc):=by rw [J.out.cellAt q y40_];exact Hu.out
    have z0:z.frozen? ⟨go,q,none⟩=false:=J.out.frozenAt q;have yd:=hid xc;have xj:=hid xb;have ye:=hid xy;obtain ⟨C,E,rfl⟩:=A6_ xc;clear xc xb xy y1 ym;have y6:(j.alloc (.cells #[.int .i64 (k:Int)] 3)).heap.size≤z.heap.size:=xj.out.size;have yb:Hid (Fam (z.setCell ⟨go,q,none⟩ (.slice C (h.length+1) E)) (d+1) (vt.set q (.slice C (h.length+1) E)) (castP (B8_ (k+1) f))):=by
     show Fam _ _ _ _;rw [yg.out];have hq:ints (castL (X3_ k f x) ++ [(k:Int)])=h ++ [.int .i64 (k:Int)]:=by rw [V6_,yl.out];rfl
     have h5:Fam z (d+1) (vt.set q (.slice C (h.length+1) E)) ((castP (X9_ k f)).set q (castL (X3_ k f x) ++ [(k:Int)])):=by
      refine (L.out.new (World.grownBy_alloc _ (.cells #[.int .i64 (k:Int)] 3) none)).grow Hu.out xj.out ?_ (by rw [Hsz3.out];exact ye.out);rw [hq,List.length_append,← yk.out];exact yd.out
     refine h5.kept (row:=some go) (J.out.stored q _).2 ?_;intro v S;obtain ⟨i,o,rfl⟩:=List.mem_iff_getElem.1 S;have xd:i<((castP (X9_ k f)).set q (castL (X3_ k f x) ++ [(k:Int)])).length:=by rw [← h5.1];exact o
     exact Zv8 (h5.2.1 i _ _ (List.getElem?_eq_getElem o) (List.getElem?_eq_getElem xd)) J.out q41_
    have yh:Hid ((z.setCell ⟨go,q,none⟩ (.slice C (h.length+1) E)).ownsRow (d+1) 28 1 (.slice (some ⟨go,0,none⟩) vt.length P) (vt.set q (.slice C (h.length+1) E)).length (vt.set q (.slice C (h.length+1) E))):=by
     show World.ownsRow _ _ _ _ _ _ _;rw [List.length_set];exact (J.out.stored q _).1
    have yf:Hid ((z.setCell ⟨go,q,none⟩ (.slice C (h.length+1) E)).ownsMap Tryz.prog 3 (plainElem Tryz.prog 3) d (k+1) s):=by
     refine (x6.out.kept x3.out ?_).kept (row:=some go) (J.out.stored q _).2 ?_
     ·intro B
      have:=xp.out d B.symm;omega
     ·intro B
      injection B with B;omega
    have ya:Hid (Below d w1 (z.setCell ⟨go,q,none⟩ (.slice C (h.length+1) E))):=by
     refine (xi.out.grown x3.out y40_ (fun i o=>by have:=xp.out i o;omega)).setCell ?_ _;show d≤go;omega
    have y4:d+1≤(z.setCell ⟨go,q,none⟩ (.slice C (h.length+1) E)).heap.size:=by
     have:j.heap.size+1≤z.heap.size:=by rw [← Hsz3.out];exact y6
     simp [World.setCell];omega
    have yi:=hid y4;clear y4 y6;go_wp2
    go_roundw
    case rel=>exact ⟨k+1,_,s,j41_,y40_,yh.out,yb.out,yf.out,x8.out,ya.out,yi.out⟩
    exact mz_
  ·have hke:k=m:=by omega
   exact k18_
open Go.RowKit
def Vh2 (w:World) (x:Int) (e:Ending) (w':World):Prop:=e=.returned (.int .i64 x)∧Below w.heap.size w w'
def rankN (m:Nat) (ns:List (Nat × Nat)):Int:=(m:Int) - (G9_ m ns:Int)
theorem Xh3 (m:Nat) (v:Value) (d:List (Nat × Nat)) (w:World) (h:Edges w w.heap.size v (castE d)) (p:1≤m) (h2:m≤64) (h3:d.length≤4096) (g:Lies m d) :
  Calls Tryz.prog 73 #[.int .i64 m,v] w (Vh2 w (rankN m d)):=by
 have o:=hid (Xx7 m v d w h p h2 h3 g);have x:(m:Int)≤64:=y40_;have u:1≤(m:Int):=y40_;obtain ⟨A,c,rfl,_⟩:=h;clear g h3
 go_enter Tryz.func73,Tryz.ntmps73
 go_wp2_with fail
 refine o.out.mono ?_;rintro e C ⟨B,rfl,r,q⟩;obtain ⟨s,c1,rfl,_⟩:=r;rw [B4_,Q5_];have y:=A8_ (rootB (compF d)) m;have j:Hid ((m:Int) - (cnt (rootB (compF d)) m:Int)=rankN m d):=rfl;generalize cnt (rootB (compF d)) m=k at *
 have z:(k:Int)≤m:=y40_;go_wp2;go_ret;exact ⟨by rw [← j.out];rfl,q⟩
end Go.Proofs.YtigobiacbficaaaGreatDoor.Wp
