/- Graphs in memory, and the program's components, walked. The program's parts and rank of a graph, walked. -/
import Derived.Test.YtheeajnkiniopaaGreatDoorZP
import Derived.Test.YtheeajnkiniopaaGreatDoorZA
import Derived.Deep.Slices
import Derived.Deep.OwnRows
import Derived.LoopN
import Derived.StillTailTactics
import Derived.Maps.OwnOps
import Derived.Maps.Views
import Derived.Test.YtheeajnkiniopaaGreatDoorX0A
import Derived.Test.YtheeajnkiniopaaGreatDoorX0B
set_option maxHeartbeats 8000000
set_option maxRecDepth 100000
open Go.Lib (hid)
namespace Go.Proofs.YtheeajnkiniopaaGreatDoor.Wp
private theorem z18_ {P:Prop} (h:P:=by
 have Hr2:=hid (Hfam.out.rows Hown.out)
 subst hke
 go_wp2
 go_ret2
 refine ⟨_,rfl,Hr2.out,Hb1.out.trans (Hbr.out.mono Hmbw.out)⟩):P:=h
private theorem x29_ {P:Prop} (h:P:=by
 go_wp2
 go_ret2
 exact ⟨g,rfl,Hfin.out,Hgs.out,Hbr.out⟩):P:=h
open Go.RowKit
def Edges (w:World) (B:Nat) (v:Value) (es:List (Int × Int)):Prop :=
 ∃ A c,v=.slice A es.length c∧(es.length≤c∧c≤maxLen∧(A=none→c=0)) ∧
  ∀ k,k<es.length→∃ ad:Addr,A=some ad∧ad.block<B∧w.cell? (ad.add (k * 2))=some (.int .i64 (es.getD k (0,0)).1)∧w.cell? ⟨(ad.add (k * 2)).block,(ad.add (k * 2)).off+1,none⟩=some (.int .i64 (es.getD k (0,0)).2)
open Go.RowKit
def okE (n:Int) (e:Int × Int):Bool:=decide (0≤e.1∧e.1<n∧0≤e.2∧e.2<n)
def sizeB (n:Int) (es:List (Int × Int)):Bool:=decide (1≤n∧n≤64∧es.length≤4096)
def isG (n:Int) (es:List (Int × Int)):Bool:=sizeB n es && es.all (okE n)
theorem Vs6 {n:Int} {es:List (Int × Int)} (h:¬ (1≤n∧n≤64∧es.length≤4096)):isG n es=false:=by
 unfold isG sizeB;rw [decide_eq_false h];rfl
theorem Zb5 {es:List (Int × Int)} {k:Nat} (c:k<es.length):es.getD k (0,0)=es[k]:=by simp [List.getD,c]
theorem isG_bad {n:Int} {es:List (Int × Int)} {k:Nat} (c:k<es.length) (h:okE n (es.getD k (0,0))=false):isG n es=false:=by
 unfold isG;rw [Bool.and_eq_false_iff];right;rw [← Bool.not_eq_true,List.all_eq_true];intro d;have:=d _ (List.getElem_mem c);rw [Zb5 c,this] at h;cases h
def Zh4 (n:Int) (es:List (Int × Int)) (k:Nat):Prop:=∀ j,j<k→okE n (es.getD j (0,0))=true
theorem Zb6 {n:Int} {es:List (Int × Int)} {k:Nat} (h:Zh4 n es k) (d:okE n (es.getD k (0,0))=true):Zh4 n es (k+1):=by
 intro j e;by_cases c:j=k
 ·rw [c];exact d
 ·exact h j q40_
theorem isG_end {n:Int} {es:List (Int × Int)} (c:1≤n∧n≤64∧es.length≤4096) {k:Nat} (d:k=es.length) (h:Zh4 n es k):isG n es=true:=by
 unfold isG sizeB;rw [decide_eq_true c,Bool.true_and,List.all_eq_true];exact x24_
theorem idx0 (x y:Int) (w:World):(Instr.index 116 (.agg #[.int .i64 x,.int .i64 y]) (.int .i64 0)).run Tryz.prog w=.ok (.int .i64 x) w:=x40_
theorem idx1 (x y:Int) (w:World):(Instr.index 116 (.agg #[.int .i64 x,.int .i64 y]) (.int .i64 1)).run Tryz.prog w=.ok (.int .i64 y) w:=x40_
theorem Yt7 (n:Int) (v:Value) (es:List (Int × Int)) (w:World) (N:Edges w w.heap.size v es) (L:1≤n) (M:n≤64) (K:es.length≤4096) :
  Calls Tryz.prog 186 #[.int .i64 n,v] w (Says w (isG n es)):=by
 obtain ⟨A,c,rfl,_,z⟩:=N;have q:=hid z;clear z;have p:=hid (fun k=>@isG_bad n es k);have F:=hid (fun k=>@isG_end n es ⟨L,M,K⟩ k);have S:=idx0;have T:=idx1;have R:(es.length:Int)≤4096:=q40_
 go_enter Tryz.func186,Tryz.ntmps186
 go_wp2
 go_loopw [22] (fun o wr=>∃ k:Nat,o=.int .i64 k∧k≤es.length∧Below w.heap.size w wr∧Zh4 n es k) (fun o _=>es.length - (intOf o).toNat)
 case atStart=>exact ⟨0,rfl,Nat.zero_le _,Below.refl _ _,fun j J=>absurd J q40_⟩
 case round =>
  obtain ⟨k,rfl,Q,E,D⟩:=hrel;have Hwr:=hid E;clear E;have r:=hid D;clear D;by_cases C:k<es.length
  ·obtain ⟨ad,I,hab,s,u⟩:=q.out k C
   subst I;have O:wr.cell? (ad.add (k * 2))=some (.int .i64 (es.getD k (0,0)).1):=((Hwr.out).cell k41_).trans s;have P:wr.cell? ⟨(ad.add (k * 2)).block,(ad.add (k * 2)).off+1,none⟩=some (.int .i64 (es.getD k (0,0)).2):=((Hwr.out).cell z47_).trans u;have Hno:=hid (p.out k C);have H:=hid (Zb6 (n:=n) (es:=es) (k:=k) r.out);clear s u p q;have He:Hid (okE n (es.getD k (0,0))=decide (0≤(es.getD k (0,0)).1∧(es.getD k (0,0)).1<n∧0≤(es.getD k (0,0)).2∧(es.getD k (0,0)).2<n)):=rfl;generalize (es.getD k (0,0)).1=x at *
   generalize (es.getD k (0,0)).2=y at *
   by_cases e:0≤x∧x<n
   ·obtain ⟨hx1,hx2⟩:=e
    by_cases h:0≤y∧y<n
    ·obtain ⟨hy1,hy2⟩:=h
     have Hx:Hid (okE n (es.getD k (0,0))=true):=q28_;go_wp2;refine wp_loop_rounds 3 ?_;rw [rounds_succ];go_wp2;rw [rounds_succ];go_wp2;rw [rounds_succ];go_wp2
     go_roundw
     case rel=>exact ⟨k+1,x41_,q40_,(Hwr.out).alloc (Hwr.out).size _,H.out Hx.out⟩
     exact mz_
    ·have Hx:Hid (okE n (es.getD k (0,0))=false):=by
      show okE n (es.getD k (0,0))=false;rw [He.out,decide_eq_false_iff_not];rintro ⟨_,_,h3,d⟩;exact h ⟨h3,d⟩
     have m:y<0∨n≤y:=q40_;clear h;rcases m with m | m
     ·exact y36_
     ·have hy2:0≤y:=by omega
      exact y36_
   ·have Hx:Hid (okE n (es.getD k (0,0))=false):=by
     show okE n (es.getD k (0,0))=false;rw [He.out,decide_eq_false_iff_not];rintro ⟨h3,d,_⟩;exact e ⟨h3,d⟩
    have g:x<0∨n≤x:=q40_;clear e;rcases g with g | g
    ·go_wp2
     refine wp_loop_rounds 3 ?_;exact z8_
    ·have hx2:0≤x:=by omega
     go_wp2;refine wp_loop_rounds 3 ?_;exact z8_
  ·have B:k=es.length:=by omega
   have G:=hid (F.out k B r.out);subst B;go_wp2;go_ret;exact X7_ G.out rfl Hwr.out
theorem Yd1 (n:Int) (v:Value) (es:List (Int × Int)) (w:World) (d:Edges w w.heap.size v es) (hl:es.length≤1048576) :
  Calls Tryz.prog 186 #[.int .i64 n,v] w (Says w (isG n es)):=by
 by_cases h:1≤n∧n≤64∧es.length≤4096
 ·exact Yt7 n v es w d h.1 h.2.1 h.2.2
 ·have Hno:=hid (Vs6 h)
  have g:=hid d;obtain ⟨A,c,rfl,_⟩:=d;have k:(es.length:Int)≤1048576:=q40_;have h3:n<1∨(1≤n∧64<n)∨(1≤n∧n≤64∧4096<(es.length:Int)):=q40_;clear h;rcases h3 with h3 | ⟨h3,e⟩ | ⟨h3,e,j⟩
  ·exact x10_
  ·exact x10_
  ·exact x10_
theorem Yt8 (n:Int) (v:Value) (es:List (Int × Int)) (w:World) (c:Edges w w.heap.size v es) (hl:es.length≤1048576) {b:Bool} (hb:isG n es=b) :
  Calls Tryz.prog 186 #[.int .i64 n,v] w (Says w b):=by
 subst hb;exact Yd1 n v es w c hl
open Go.RowKit
def Labels (w:World) (g n:Nat) (f:Nat→Nat):Prop:=w.rowIs g 3 n fun i=>.int .i64 (f i:Int)
theorem Labels.congr {w:World} {g n:Nat} {f f':Nat→Nat} (h:Labels w g n f) (e:∀ i,i<n→f i=f' i):Labels w g n f':=World.rowIs.congr h fun i c=>by rw [e i c]
theorem Labels.set {w:World} {g n:Nat} {f:Nat→Nat} (h:Labels w g n f) (i:Nat) (v:Nat):Labels (w.setCell ⟨g,i,none⟩ (.int .i64 (v:Int))) g n (fun j=>if j=i then v else f j) :=
 World.rowIs.congr (World.rowIs.set h i _) fun j _=>z20_
def Vb1 (w:World) (g n:Nat) (f:Nat→Nat) (e:Ending) (w':World):Prop:=e=.returned (.tuple #[])∧Labels w' g n f∧w.grownBy w' (some g)
theorem Yt9 {f f':Nat→Nat} {lo e k:Nat} (h:f'=fun v=>if f v=e then lo else f v) :
  (f k=e→(fun j=>if j=k then lo else if j<k then f' j else f j)=fun j=>if j<k+1 then f' j else f j)∧(f k≠e→(fun j=>if j<k then f' j else f j)=fun j=>if j<k+1 then f' j else f j):=by
 subst h;constructor
 ·intro g
  funext j
  by_cases c:j=k
  ·subst c;simp [g]
  ·by_cases d:j<k
   ·simp [c,d,show j<k+1 by omega]
   ·simp [c,d,show ¬ j<k+1 by omega]
 ·intro g
  funext j
  by_cases c:j=k
  ·subst c;simp [g]
  ·by_cases d:j<k
   ·simp [d,show j<k+1 by omega]
   ·simp [d,show ¬ j<k+1 by omega]
theorem Yl9 (g n:Nat) (f f':Nat→Nat) (a b lo c:Nat) (u:f'=fun v=>if f v=c then lo else f v) (J:lo<c) (E:(lo=a∧c=b)∨(c=a∧lo=b)) (w:World) (s:Labels w g n f) (K:n≤64) :
  Calls Tryz.prog 187 #[.slice (some ⟨g,0,none⟩) n n,.int .i64 a,.int .i64 b] w (Vb1 w g n f'):=by
 have C:=hid s;clear s;have m:=hid (fun k=>Yt9 (k:=k) u);clear u;have L:(n:Int)≤64:=q40_;have M:((lo:Int)==(c:Int))=false:=by rw [beq_eq_false_iff_ne];omega
 have N:((c:Int)==(lo:Int))=false:=by rw [beq_eq_false_iff_ne];omega
 have O:¬ c<lo:=q40_;rcases E with ⟨q,r⟩ | ⟨q,r⟩
 all_goals
  subst q;subst r
  go_enter Tryz.func187,Tryz.ntmps187
  go_wp2
  go_loopw [21] (fun h wr=>∃ k:Nat,h=.int .i64 k∧k≤n∧Labels wr g n (fun j=>if j<k then f' j else f j)∧w.grownBy wr (some g)) (fun h _=>n - (intOf h).toNat)
  case atStart=>exact ⟨0,rfl,Nat.zero_le _,C.out.congr (fun i _=>by simp),World.grownBy.refl _ _⟩
  case round =>
   obtain ⟨k,rfl,I,z,y⟩:=hrel;have d:=hid z;have e:=hid y;clear z y;by_cases G:k<n
   ·have hc:wr.cell? ⟨g,k,none⟩=some (.int .i64 (f k:Int)):=by
     have:=d.out.cell G;simpa using this
    have H:wr.frozen? ⟨g,k,none⟩=false:=d.out.frozen k;have o:=hid (m.out k).1;have p:=hid (m.out k).2;have D:=hid (fun v=>d.out.set k v);generalize f k=x at hc o p;by_cases B:x=c
    ·subst B
     go_wp2
     go_roundw
     case rel =>
      refine ⟨k+1,x41_,q40_,?_,Zt1 e.out (.inl rfl) _⟩;rw [← o.out rfl];exact D.out _
     case measure=>simp [intOf];omega
    ·have P:((x:Int)==(c:Int))=false:=by rw [beq_eq_false_iff_ne];omega
     go_wp2
     go_roundw
     case rel=>exact ⟨k+1,x41_,q40_,by rw [← p.out B];exact d.out,e.out⟩
     exact mz_
   ·have F:k=n:=by omega
    subst F;go_wp2
    go_end0
    exact ⟨rfl,d.out.congr (fun i c=>by simp [c]),e.out⟩
theorem Xc1 (g n:Nat) (f:Nat→Nat) (a b:Nat) (w:World) (d:Labels w g n f) (e:n≤64) :
  Calls Tryz.prog 187 #[.slice (some ⟨g,0,none⟩) n n,.int .i64 a,.int .i64 b] w (Vb1 w g n (R0_ f a b)):=by
 rcases Nat.lt_trichotomy a b with c | c | c
 ·refine Yl9 g n f _ a b a b ?_ c (.inl ⟨rfl,rfl⟩) w d e
  funext v
  unfold R0_;rw [Nat.max_eq_right q40_,Nat.min_eq_left q40_]
 ·subst c
  rw [Zh1];have h:=hid d;clear d;have j:(n:Int)≤64:=q40_
  go_enter Tryz.func187,Tryz.ntmps187
  go_wp2;refine bodyPost_ret (results_none rfl _ _ _) rfl ?_;exact ⟨rfl,h.out,World.grownBy.refl _ _⟩
 ·refine Yl9 g n f _ a b b a ?_ c (.inr ⟨rfl,rfl⟩) w d e
  funext v
  unfold R0_;rw [Nat.max_eq_left q40_,Nat.min_eq_right q40_]
open Go.RowKit
def castE (ns:List (Nat × Nat)):List (Int × Int):=ns.map fun e=>((e.1:Int),(e.2:Int))
theorem V2_ (c:List (Nat × Nat)):(castE c).length=c.length:=by simp [castE]
theorem I2_ (c:List (Nat × Nat)) (k:Nat):(castE c).getD k (0,0)=(((c.getD k (0,0)).1:Int),((c.getD k (0,0)).2:Int)):=by
 unfold castE;rw [List.getD_eq_getElem?_getD,List.getD_eq_getElem?_getD,List.getElem?_map];rcases c[k]? with _ | e<;>rfl
theorem Vb2 {m:Nat} {c:List (Nat × Nat)} (h:1≤m) (j:m≤64) (h3:c.length≤4096) (d:Lies m c):isG m (castE c)=true:=by
 unfold isG sizeB;rw [Bool.and_eq_true,decide_eq_true_iff,List.all_eq_true];refine ⟨⟨q40_,q40_,by rw [V2_];exact h3⟩,fun e f=>?_⟩;obtain ⟨x,g,rfl⟩:=List.mem_map.1 f;have:=d x g;simp only [okE,decide_eq_true_iff];omega
def Zb7 (w:World) (m:Nat) (f:Nat→Nat) (e:Ending) (w':World):Prop :=
 ∃ g,e=.returned (.tuple #[.slice (some ⟨g,0,none⟩) m m,.int .i64 0])∧Labels w' g m f∧w.heap.size≤g∧Below w.heap.size w w'
def D6_ (ns:List (Nat × Nat)) (k:Nat):Nat→Nat:=compF (ns.take k)
theorem Zn9 {c:List (Nat × Nat)} {k:Nat} (d:k<c.length):D6_ c (k+1)=B9_ (D6_ c k) (c.getD k (0,0)):=by
 unfold D6_;rw [List.take_succ_eq_append_getElem d,Za6];simp [List.getD,d]
theorem Zw2 {m:Nat} {c:List (Nat × Nat)} (h:Lies m c) {k:Nat} (d:k<c.length):(c.getD k (0,0)).1<m∧(c.getD k (0,0)).2<m:=by
 have:=h c[k] (List.getElem_mem d);simpa [List.getD,d] using this
theorem Yu0 (m:Nat) (v:Value) (d:List (Nat × Nat)) (w:World) (O:Edges w w.heap.size v (castE d)) (h1:1≤m) (K:m≤64) (h3:d.length≤4096) (z:Lies m d) :
  Calls Tryz.prog 154 #[.int .i64 m,v] w (Zb7 w m (compF d)):=by
 have Y:=hid O;have S:=hid (Vb2 h1 K h3 z);have X:=hid z;have hl:(castE d).length≤1048576:=by rw [V2_];omega
 obtain ⟨A,c,P,_,B⟩:=O;rw [V2_] at P B;subst P;have F:=hid B;clear B z;have x2:(m:Int)≤64:=q40_;have x1:1≤(m:Int):=q40_;have x3:(d.length:Int)≤4096:=q40_;have x0:=fun W=>run_make_row' 23 3 (.int .i64 0) 8 Tryz.underlying23 info3 rfl .i64 .i64 m q40_ q40_ W
 go_enter Tryz.func154,Tryz.ntmps154
 go_wp2_with fail
 refine (Yt8 m _ (castE d) w Y.out hl S.out).mono ?_;rintro e w1 ⟨rfl,r⟩;obtain ⟨g,hg⟩:∃ g,g=w1.heap.size:=⟨_,rfl⟩;have Hgs:Hid (w.heap.size≤g):=by
  show _≤_;rw [hg];exact r.size
 have U:Hid (Labels (w1.alloc (.cells (madeCells #[.int .i64 0] m) 3)) g m (fun j=>if j<0 then j else 0)):=k22_;have R:Hid (Below w.heap.size w (w1.alloc (.cells (madeCells #[.int .i64 0] m) 3))):=r.alloc r.size _;clear r;go_wp2;rw [← hg];clear hg x0
 go_loopw [18] (fun h wr=>∃ k:Nat,h=.int .i64 k∧k≤m∧Labels wr g m (fun j=>if j<k then j else 0)∧Below w.heap.size w wr) (fun h _=>m - (intOf h).toNat)
 case atStart=>exact ⟨0,rfl,Nat.zero_le _,U.out,R.out⟩
 case round =>
  obtain ⟨k,rfl,M,q,o⟩:=hrel;have Hlab:=hid q;have Hbr:=hid o;clear q o;by_cases hlt:k<m
  ·exact k4_
  ·have C:k=m:=by omega
   have G:=hid (Hlab.out.congr (f':=D6_ d 0) (fun i hi=>by simp [D6_,compF,show i<k by omega]));clear Hlab;go_wp2
   go_loopw [28] (fun h wr=>∃ k:Nat,h=.int .i64 k∧k≤d.length∧Labels wr g m (D6_ d k)∧Below w.heap.size w wr) (fun h _=>d.length - (intOf h).toNat)
   case atStart=>exact ⟨0,rfl,Nat.zero_le _,G.out,Hbr.out⟩
   case round =>
    clear G Hbr C hlt M;obtain ⟨k,rfl,M,q,o⟩:=hrel;have Hlab:=hid q;have Hbr:=hid o;clear q o;by_cases hlt:k<d.length
    ·obtain ⟨ad,hA,hab,q1,q2⟩:=F.out k hlt
     subst hA;rw [I2_] at q1 q2;simp only at q1 q2;have I:=(Hbr.out.cell (p:=ad.add (k * 2)) k41_).trans q1;have J:=(Hbr.out.cell (p:=⟨(ad.add (k * 2)).block,(ad.add (k * 2)).off+1,none⟩) z47_).trans q2;clear q1 q2 F;have D:=Zw2 X.out hlt;have H:=hid (Zn9 hlt);obtain ⟨⟨x,y⟩,Q⟩:∃ e,e=d.getD k (0,0):=⟨_,rfl⟩;rw [← Q] at I J D H;clear Q;simp only at I J D;obtain ⟨hx,hy⟩:=D;have x4:(x:Int)<m:=q40_;have x5:(y:Int)<m:=q40_;have u:=Blk.new wr 116 #[.int .i64 (x:Int),.int .i64 (y:Int)];have Z:=u.cell 0;have d1:=u.cell 1;simp only [List.getElem?_toArray,List.getElem?_cons_zero,List.getElem?_cons_succ] at Z d1;have s:=hid (World.rowIs.alloc Hlab.out (.cells #[.int .i64 (x:Int),.int .i64 (y:Int)] 116));have c1:=s.out.cell hx;have c2:=s.out.cell hy;have E:=hid (Hbr.out.alloc Hbr.out.size (.cells #[.int .i64 (x:Int),.int .i64 (y:Int)] 116));clear u;go_wp2;generalize wr.alloc (.cells #[.int .i64 (x:Int),.int .i64 (y:Int)] 116)=W at *
     generalize wr.heap.size=eb at *
     go_still_tail 11,x40_
     change wpList _ _ _ _ _ W.drew
     go_wp2_with fail
     refine (Xc1 g m (D6_ d k) (D6_ d k x) (D6_ d k y) W.drew s.out K).mono ?_;rintro e w3 ⟨rfl,N,L⟩;have V:=hid N;have T:=hid L;clear N L;go_wp2
     go_roundw
     case rel =>
      refine ⟨k+1,x41_,q40_,by rw [H.out];exact V.out,E.out.trans ?_⟩;exact ((Below.refl w.heap.size W).drew).grown T.out E.out.size (fun i hi=>by injection hi with hi;rw [← hi];exact Hgs.out)
     case measure=>simp [intOf];omega
    ·have C:k=d.length:=by omega
     have Hfin:=hid (Hlab.out.congr (f':=compF d) (fun i _=>by unfold D6_;rw [C,List.take_length]));exact x29_
open Go.RowKit Go.Maps
def castL (l:List Nat):List Int:=l.map fun v:Nat=>(v:Int)
def castP (pp:List (List Nat)):List (List Int):=pp.map castL
theorem B5_ (pp:List (List Nat)):(castP pp).length=pp.length:=by simp [castP]
theorem Xs2 {pp:List (List Nat)} {i:Nat} {p:List Nat} (h:pp[i]?=some p):(castP pp)[i]?=some (castL p):=by simp [castP,h]
theorem Xc2 (pp:List (List Nat)) (i:Nat) (p:List Nat):castP (pp.set i p)=(castP pp).set i (castL p):=by simp [castP,List.map_set]
theorem Zx9 (l:List Nat):(castL l).length=l.length:=by simp [castL]
theorem Zh5 (l:List Nat) (k:Nat):castL (l ++ [k])=castL l ++ [(k:Int)]:=by simp [castL]
def Zv0 (D:DataW Unit) (f:Nat→Nat) (k:Nat):Prop:=∀ r,r<k→f r=r→D.atKey (.int .i64 (r:Int)) (.lit (.int .i64 0))=.lit (.int .i64 (cnt (rootB f) r:Int))
theorem law3:Keyed Tryz.prog 3 := int_keyed Tryz.underlying3
theorem zero3 (w:World):(zeroValue 3).run Tryz.prog w=.ok (.int .i64 0) w:=x40_
theorem Zw3:(Tryz.prog.info? 23).map (fun i=>(i.zero,i.size,i.bytes))=some (some (.slice none 0 0),1,24):=x40_
theorem Yd2 {D:DataW Unit} {f:Nat→Nat} {k:Nat} (h:Zv0 D f k) (d:f k≠k):Zv0 D f (k+1):=by
 intro r g c;by_cases e:r=k
 ·subst e;exact absurd c d
 ·exact h r q40_ c
theorem isMap_of {w:World} {b n:Nat} {D:DataW Unit} (h:w.ownsMap Tryz.prog 3 (plainElem Tryz.prog 3) b n D):IsMap D:=by
 obtain ⟨_,_,_,_,_,c⟩:=h;exact ⟨_,c⟩
theorem Yu1 {D:DataW Unit} {f:Nat→Nat} {k:Nat} (h:Zv0 D f k) (c:IsMap D):Zv0 (D.put (.int .i64 (k:Int)) (.lit (.int .i64 (cnt (rootB f) k:Int)))) f (k+1):=by
 intro r j d;by_cases g:r=k
 ·subst g
  exact atKey_put_same c (show WideAt.IsKeyLit (.int .i64 (r:Int)) from trivial) _ _
 ·rw [atKey_put_other (by intro e;injection e;omega)]
  exact h r q40_ d
def Zw4 (w:World) (pp:List (List Int)) (e:Ending) (w':World):Prop :=
 ∃ v,e=.returned (.tuple #[v,.int .i64 0])∧Rows2 w' w'.heap.size v pp∧Below w.heap.size w w'
theorem Yu2 (m:Nat) (v:Value) (F:List (Nat × Nat)) (w:World) (I:Edges w w.heap.size v (castE F)) (h1:1≤m) (h2:m≤64) (h3:F.length≤4096) (h4:Lies m F) :
  Calls Tryz.prog 128 #[.int .i64 m,v] w (Zw4 w (castP (C0_ m (compF F)))):=by
 have Hr:=hid I;have Hc:=hid (Yu0 m v F w I h1 h2 h3 h4);have yy:(m:Int)≤64:=q40_;have yx:1≤(m:Int):=q40_;have O:=hid (Xa9 F);have N:=hid (Zu5 F);obtain ⟨A,c,rfl,_⟩:=I;clear h4 h3;have yr:=@run_makeMap Tryz.prog
 go_enter Tryz.func128,Tryz.ntmps128
 go_wp2_with fail
 refine Hc.out.mono ?_;rintro e w1 ⟨g,rfl,xx,hg,xa⟩;generalize compF F=f at *
 have xk:=hid xx;clear Hc xx Hr;have xv:g<w1.heap.size:=World.rowIs.lt xk.out;obtain ⟨d,hmb⟩:∃ d,d=w1.heap.size:=⟨_,rfl⟩;have xl:Hid ((w1.alloc (.map #[] 0)).ownsMap Tryz.prog 3 (plainElem (H:=Unit) Tryz.prog 3) d 0 (.map [])):=by
  show World.ownsMap _ _ _ _ _ _ _;rw [hmb];exact World.ownsMap_made w1 Tryz.prog 3 _
 have xg:Hid (Below d w1 (w1.alloc (.map #[] 0))):=y29_;have xo:Hid (d+1≤(w1.alloc (.map #[] 0)).heap.size):=by
  show _≤_;rw [hmb];simp
 have Hmbw:Hid (w.heap.size≤d):=by
  show _≤_;rw [hmb];exact xa.size
 have yn:g<d:=by rw [hmb];exact xv
 have Hb1:=hid xa;clear xa xv;go_wp2;rw [← hmb];have yw:=hid hmb;clear hmb yr
 go_loopw [8,25] (fun vp vk wr=>∃ (k:Nat) (vs:List Value) (D:DataW Unit),vk=.int .i64 k∧k≤m∧wr.ownsRow (d+1) 23 1 vp vs.length vs∧Fam wr (d+1) vs (castP (C0_ k f)) ∧
   wr.ownsMap Tryz.prog 3 (plainElem Tryz.prog 3) d k D∧Zv0 D f k∧Below d w1 wr∧d+1≤wr.heap.size) (fun _ vk _=>m - (intOf vk).toNat)
 case atStart=>exact ⟨0,[],.map [],rfl,Nat.zero_le _,World.ownsRow_nil _ _ _ _,Ya5 _ _,xl.out,fun r I=>absurd I q40_,xg.out,xo.out⟩
 case round =>
  obtain ⟨k,vs,D,rfl,hk,xe,xu,xz,Z,xr,y5⟩:=hrel;clear xl xg xo;obtain ⟨vA,vc,rfl⟩:=A7_ xe;have Hown:=hid xe;have Hfam:=hid xu;have x5:=hid xz;have xn:=hid Z;have Hbr:=hid xr;clear xe xu xz Z xr;by_cases yq:k<m
  ·have hc:wr.cell? ⟨g,k,none⟩=some (.int .i64 (f k:Int)):=(Hbr.out.cell (p:=⟨g,k,none⟩) (yn)).trans (xk.out.cell yq)
   have x9:Hid (vs.length=cnt (rootB f) k):=by
    show _=_;rw [Hfam.out.1,B5_,Q3_]
   have z2:vs.length≤64:=by
    rw [x9.out];have:=A3_ (rootB f) k;omega
   have z3:(vs.length:Int)≤64:=q40_;obtain ⟨x,U⟩:∃ x,x=f k:=⟨_,rfl⟩;rw [← U] at hc;have z5:x≤k:=by rw [U];exact O.out k
   have yc:Hid (f x=x):=by
    show f x=x;rw [U];exact N.out k
   have xq:=hid (WalkArith.wf_i64 (n:=(x:Int)) q40_);have yj:=hid (WalkArith.wf_i64 (n:=(vs.length:Int)) q40_);have Hxe:=hid U;clear U;by_cases R:x=k
   case' pos =>
    have Hroot:=hid R;have yp:((k:Int)==(x:Int))=true:=by simp [R]
    clear R
    go_wp2_with (at_mapUpdate;refine wpList_mapUpdate_own _ rfl _ _ _ 151 rfl 3 3 law3 Tryz.underlying151 _ d k _ rfl x5.out y41_ _ _ _ rfl rfl (keyOf_int_mk Tryz.underlying3 xq.out) _ [] (plainElem_int Tryz.underlying3 yj.out) ?_)
    intro w2 y0 xw;have xm:=hid y0;have M:=hid xw;clear y0 xw;have yt:d+1≤w2.heap.size:=Nat.le_trans y5 M.out.size;have y9:∀ q,(Value.slice vA vs.length vc).ownBlock=some q→d+1≤q:=fun q hq=>(Hown.out.lt q hq).1;have X:=hid y9;clear y9;have x7:=hid (Hown.out.kept M.out (by
     rcases hb:(Value.slice vA vs.length vc).ownBlock with _ | q
     ·exact .inl rfl
     ·right
      intro B;injection B with B;have:=X.out q hb;omega))
    have W:=hid (Hfam.out.apart M.out q40_);have xh:=hid (Hbr.out.grown M.out q40_ (fun i o=>by injection o with o;omega));have G:=(Blk.new w2 23 #[.slice none 0 0]).cell 0;simp only [List.getElem?_toArray,List.getElem?_cons_zero] at G;have V:=hid G;clear G
    go_wp2_with (at_builtin;refine X6_ rfl _ _ 35 23 (.slice none 0 0) 24 rfl Tryz.underlying35 Zw3 rfl (d+1) _ (.slice none 0 0) vs rfl (x7.out.alloc _) w2.heap.size rfl V.out rfl q40_ q40_ j40_ ?_)
    intro yv j y2 Q _;obtain ⟨s,hD⟩:∃ s,s=D.put (.int .i64 (x:Int)) (.lit (.int .i64 (vs.length:Int))):=⟨_,rfl⟩;have x8:Hid (Zv0 s f (k+1)):=by
     show Zv0 _ _ _;rw [hD,Hroot.out,x9.out];exact Yu1 xn.out (isMap_of x5.out)
    have x6:Hid (j.ownsMap Tryz.prog 3 (plainElem Tryz.prog 3) d (k+1) s):=by
     show World.ownsMap _ _ _ _ _ _ _;rw [hD];refine (xm.out.alloc _).kept Q ?_;intro B;have:=X.out d B.symm;omega
    have xi:=hid ((xh.out.alloc q40_ (.cells #[.slice none 0 0] 23)).grown Q j40_ (fun i o=>by have:=X.out i o;omega));have yu:d+1≤j.heap.size:=Nat.le_trans j40_ Q.size;obtain ⟨vt,x0⟩:∃ vt,vt=vs ++ [.slice none 0 0]:=⟨_,rfl⟩;have K:Hid (j.ownsRow (d+1) 23 1 yv vt.length vt):=by
     show World.ownsRow _ _ _ _ _ _ _;rw [x0,List.length_append];exact y2
    have L:Hid (Fam j (d+1) vt (castP (X9_ k f))):=by
     show Fam _ _ _ _;have I:castP (X9_ k f)=castP (C0_ k f) ++ [[]]:=by
      unfold X9_;rw [← Hxe.out,if_pos Hroot.out];simp [castP,castL]
     rw [x0,I];refine Fam.more ?_;refine (W.out.new (World.grownBy_alloc _ (.cells #[.slice none 0 0] 23) none)).kept Q ?_;intro v S;obtain ⟨i,o,rfl⟩:=List.mem_iff_getElem.1 S;have xd:i<(castP (C0_ k f)).length:=by rw [← W.out.1];exact o
     exact Zx4 (W.out.2.1 i _ _ (List.getElem?_eq_getElem o) (List.getElem?_eq_getElem xd)) x7.out q41_
    have T:0<vt.length:=by rw [x0,List.length_append];simp
    obtain ⟨go,P,rfl,yo⟩:=K6_ K.out T;clear hD x0 T y2 Q V xh W x7 X xm M yt
   case' neg =>
    have Hroot:=hid R;have yp:((k:Int)==(x:Int))=false:=by rw [beq_eq_false_iff_ne];omega
    clear R;obtain ⟨j,rfl⟩:∃ j,j=wr:=⟨_,rfl⟩;obtain ⟨vt,rfl⟩:∃ vt,vt=vs:=⟨_,rfl⟩;obtain ⟨s,rfl⟩:∃ s,s=D:=⟨_,rfl⟩;have x8:Hid (Zv0 s f (k+1)):=Yd2 xn.out j50_;have x6:=hid (x5.out.mono (Nat.le_succ k));have xi:=Hbr;have yu:=y5;have K:=Hown;have L:Hid (Fam j (d+1) vt (castP (X9_ k f))):=by
     show Fam _ _ _ _;unfold X9_;rw [← Hxe.out,if_neg Hroot.out];exact Hfam.out
    have T:0<vt.length:=by
     rw [L.out.1,B5_];exact Nat.lt_of_le_of_lt (Nat.zero_le _) (Yc1 (k:=k) O.out N.out)
    obtain ⟨go,P,S,yo⟩:=K6_ K.out T;injection S with hv1 _ hv2;subst hv1;obtain rfl:P=vc:=hv2.symm;clear T
   all_goals
    go_wp2_with (at_lookup;refine wpList_lookup_own_int _ rfl _ _ 151 rfl 3 3 .i64 law3 Tryz.underlying151 Tryz.underlying3 (zero3 _) d (k+1) s rfl x6.out _ _ rfl (keyOf_int_mk Tryz.underlying3 xq.out) ?_)
    intro c y _;rw [x8.out x q40_ yc.out] at y;obtain rfl:c=(cnt (rootB f) x:Int):=by injection y with y;injection y with _ y;exact y.symm
    clear y;have y3:cnt (rootB f) x<(X9_ k f).length:=by rw [Hxe.out];exact Yc1 O.out N.out
    have y:(X9_ k f)[cnt (rootB f) x]?=some (X2_ k f x):=by rw [Hxe.out];exact Vg5 O.out N.out
    have yg:Hid (castP (C0_ (k+1) f)=(castP (X9_ k f)).set (cnt (rootB f) x) (castL (X2_ k f x) ++ [(k:Int)])):=by
     show _=_;rw [Ys8 O.out N.out,Xc2,Zh5,← Hxe.out]
    generalize cnt (rootB f) x=q at *
    have xf:vt.length=(X9_ k f).length:=by rw [L.out.1,B5_]
    have ys:q<vt.length:=by rw [xf];exact y3
    have z4:vt.length≤65:=by
     rw [xf,Za8];have:=A3_ (rootB f) (k+1);omega
    have hu:vt[q]?=some vt[q]:=List.getElem?_eq_getElem ys;have Y:=L.out.2.1 q _ _ hu (Xs2 y);have xt:=K.out.cells (g:=go) rfl q _ hu;have ym:j.cell? ⟨go,q,none⟩=some vt[q]:=by
     rw [← xt];unfold Addr.add;split<;>simp_all
    clear xt;have Z:(castL (X2_ k f x)).length≤64:=by
     rw [Zx9];have:=T7_ k f x;omega
    generalize vt[q]=u at *
    have z1:(q:Int)<(vt.length:Int):=q40_;obtain ⟨h,x2⟩:∃ h,h=ints (castL (X2_ k f x)):=⟨_,rfl⟩;have x1:h.length=(castL (X2_ k f x)).length:=by rw [x2,Y6_]
    rw [← x2,← x1] at Y;rw [← x1] at Z;obtain ⟨uA,uc,rfl⟩:=A7_ Y;have x4:=hid Y;have Hu:=hid hu;have yl:=hid x2;have yk:=hid x1;clear Y hu y y3 xf x9 x2 x1;have G:=(Blk.new j 3 #[.int .i64 (k:Int)]).cell 0;simp only [List.getElem?_toArray,List.getElem?_cons_zero] at G;have V:=hid G;clear G;have y7:(j.alloc (.cells #[.int .i64 (k:Int)] 3)).heap.size=j.heap.size+1:=z40_;have Hsz3:=hid y7;have y8:∀ i,(Value.slice uA h.length uc).ownBlock=some i→d+1≤i:=fun i o=>(x4.out.lt i o).1;have xp:=hid y8;clear y7 y8
    go_wp2_with (at_builtin;refine X6_ rfl _ _ 23 3 (.int .i64 0) 8 rfl Tryz.underlying23 info3 rfl (d+1) _ (.int .i64 (k:Int)) h rfl (x4.out.alloc _) j.heap.size rfl V.out rfl q40_ q40_ x46_ ?_)
    intro u5 z xc xb xy;have x3:=hid ((World.grownBy_alloc j (.cells #[.int .i64 (k:Int)] 3) (Value.slice uA h.length uc).ownBlock).trans xb);have y1:(Value.slice (some ⟨go,0,none⟩) vt.length P).ownBlock=none∨(Value.slice (some ⟨go,0,none⟩) vt.length P).ownBlock≠(Value.slice uA h.length uc).ownBlock:=Zx4 K.out x4.out q41_;have J:=hid (K.out.kept x3.out y1);have yz:z.cell? ⟨go,q,none⟩=some (.slice uA h.length uc):=by rw [J.out.cellAt q q40_];exact Hu.out
    have z0:z.frozen? ⟨go,q,none⟩=false:=J.out.frozenAt q;have yd:=hid xc;have xj:=hid xb;have ye:=hid xy;obtain ⟨C,E,rfl⟩:=A7_ xc;clear xc xb xy y1 ym;have y6:(j.alloc (.cells #[.int .i64 (k:Int)] 3)).heap.size≤z.heap.size:=xj.out.size;have yb:Hid (Fam (z.setCell ⟨go,q,none⟩ (.slice C (h.length+1) E)) (d+1) (vt.set q (.slice C (h.length+1) E)) (castP (C0_ (k+1) f))):=by
     show Fam _ _ _ _;rw [yg.out];have hq:ints (castL (X2_ k f x) ++ [(k:Int)])=h ++ [.int .i64 (k:Int)]:=by rw [V6_,yl.out];rfl
     have h5:Fam z (d+1) (vt.set q (.slice C (h.length+1) E)) ((castP (X9_ k f)).set q (castL (X2_ k f x) ++ [(k:Int)])):=by
      refine (L.out.new (World.grownBy_alloc _ (.cells #[.int .i64 (k:Int)] 3) none)).grow Hu.out xj.out ?_ (by rw [Hsz3.out];exact ye.out);rw [hq,List.length_append,← yk.out];exact yd.out
     refine h5.kept (row:=some go) (J.out.stored q _).2 ?_;intro v S;obtain ⟨i,o,rfl⟩:=List.mem_iff_getElem.1 S;have xd:i<((castP (X9_ k f)).set q (castL (X2_ k f x) ++ [(k:Int)])).length:=by rw [← h5.1];exact o
     exact Zx4 (h5.2.1 i _ _ (List.getElem?_eq_getElem o) (List.getElem?_eq_getElem xd)) J.out q41_
    have yh:Hid ((z.setCell ⟨go,q,none⟩ (.slice C (h.length+1) E)).ownsRow (d+1) 23 1 (.slice (some ⟨go,0,none⟩) vt.length P) (vt.set q (.slice C (h.length+1) E)).length (vt.set q (.slice C (h.length+1) E))):=by
     show World.ownsRow _ _ _ _ _ _ _;rw [List.length_set];exact (J.out.stored q _).1
    have yf:Hid ((z.setCell ⟨go,q,none⟩ (.slice C (h.length+1) E)).ownsMap Tryz.prog 3 (plainElem Tryz.prog 3) d (k+1) s):=by
     refine (x6.out.kept x3.out ?_).kept (row:=some go) (J.out.stored q _).2 ?_
     ·intro B
      have:=xp.out d B.symm;omega
     ·intro B
      injection B with B;omega
    have ya:Hid (Below d w1 (z.setCell ⟨go,q,none⟩ (.slice C (h.length+1) E))):=by
     refine (xi.out.grown x3.out q40_ (fun i o=>by have:=xp.out i o;omega)).setCell ?_ _;show d≤go;omega
    have y4:d+1≤(z.setCell ⟨go,q,none⟩ (.slice C (h.length+1) E)).heap.size:=by
     have:j.heap.size+1≤z.heap.size:=by rw [← Hsz3.out];exact y6
     simp [World.setCell];omega
    have yi:=hid y4;clear y4 y6;go_wp2
    go_roundw
    case rel=>exact ⟨k+1,_,s,x41_,q40_,yh.out,yb.out,yf.out,x8.out,ya.out,yi.out⟩
    exact mz_
  ·have hke:k=m:=by omega
   exact z18_
open Go.RowKit
def Vb3 (w:World) (x:Int) (e:Ending) (w':World):Prop:=e=.returned (.int .i64 x)∧Below w.heap.size w w'
def rankN (m:Nat) (ns:List (Nat × Nat)):Int:=(m:Int) - (G5_ m ns:Int)
theorem Xc3 (m:Nat) (v:Value) (d:List (Nat × Nat)) (w:World) (h:Edges w w.heap.size v (castE d)) (p:1≤m) (q:m≤64) (h3:d.length≤4096) (g:Lies m d) :
  Calls Tryz.prog 100 #[.int .i64 m,v] w (Vb3 w (rankN m d)):=by
 have o:=hid (Yu2 m v d w h p q h3 g);have y:(m:Int)≤64:=q40_;have x:1≤(m:Int):=q40_;obtain ⟨A,c,rfl,_⟩:=h;clear g h3
 go_enter Tryz.func100,Tryz.ntmps100
 go_wp2_with fail
 refine o.out.mono ?_;rintro e D ⟨C,rfl,s,r⟩;obtain ⟨u,c1,rfl,_⟩:=s;rw [B5_,Q3_];have z:=A3_ (rootB (compF d)) m;have j:Hid ((m:Int) - (cnt (rootB (compF d)) m:Int)=rankN m d):=rfl;generalize cnt (rootB (compF d)) m=k at *
 have B:(k:Int)≤m:=q40_;go_wp2;go_ret;exact ⟨by rw [← j.out];rfl,r⟩
end Go.Proofs.YtheeajnkiniopaaGreatDoor.Wp
