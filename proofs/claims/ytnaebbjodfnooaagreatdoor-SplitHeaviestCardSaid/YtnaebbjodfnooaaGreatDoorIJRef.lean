/- Graphs in memory, and the program's components, walked. The program's parts and rank of a graph, walked. -/
import Derived.Test.YtnaebbjodfnooaaGreatDoorZP
import Derived.Test.YtnaebbjodfnooaaGreatDoorGPlaces
import Derived.Deep.Slices
import Derived.Deep.OwnRows
import Derived.LoopN
import Derived.StillTailTactics
import Derived.Maps.OwnOps
import Derived.Maps.Views
import Derived.Test.YtnaebbjodfnooaaGreatDoorX0A
import Derived.Test.YtnaebbjodfnooaaGreatDoorX0C
set_option maxHeartbeats 8000000
set_option maxRecDepth 100000
open Go.Lib (hid)
namespace Go.Proofs.YtnaebbjodfnooaaGreatDoor.Wp
private theorem j15_ {P:Prop} (h:P:=by
 have Hr2:=hid (Hfam.out.rows Hown.out)
 subst hke
 go_wp2
 go_ret2
 refine ⟨_,rfl,Hr2.out,Hb1.out.trans (Hbr.out.mono Hmbw.out)⟩):P:=h
private theorem x27_ {P:Prop} (h:P:=by
 go_wp2
 go_ret2
 exact ⟨g,rfl,Hfin.out,Hgs.out,Hbr.out⟩):P:=h
open Go.RowKit
def Edges (w:World) (B:Nat) (v:Value) (es:List (Int × Int)):Prop :=
 ∃ A c,v=.slice A es.length c∧(es.length≤c∧c≤maxLen∧(A=none→c=0)) ∧
  ∀ k,k<es.length→∃ ad:Addr,A=some ad∧ad.block<B∧w.cell? (ad.add (k * 2))=some (.int .i64 (es.getD k (0,0)).1)∧w.cell? ⟨(ad.add (k * 2)).block,(ad.add (k * 2)).off+1,none⟩=some (.int .i64 (es.getD k (0,0)).2)
open Go.RowKit
def okE (n:Int) (e:Int × Int):Bool:=decide (0≤e.1∧e.1<n∧0≤e.2∧e.2<n)
def sizeB (n:Int) (es:List (Int × Int)):Bool:=decide (1≤n∧n≤64∧es.length≤4096)
def isG (n:Int) (es:List (Int × Int)):Bool:=sizeB n es && es.all (okE n)
theorem Jy8 {n:Int} {es:List (Int × Int)} (h:¬ (1≤n∧n≤64∧es.length≤4096)):isG n es=false:=by
 unfold isG sizeB;rw [decide_eq_false h];rfl
theorem Ze0 {es:List (Int × Int)} {k:Nat} (c:k<es.length):es.getD k (0,0)=es[k]:=by simp [List.getD,c]
theorem isG_bad {n:Int} {es:List (Int × Int)} {k:Nat} (c:k<es.length) (h:okE n (es.getD k (0,0))=false):isG n es=false:=by
 unfold isG;rw [Bool.and_eq_false_iff];right;rw [← Bool.not_eq_true,List.all_eq_true];intro d;have:=d _ (List.getElem_mem c);rw [Ze0 c,this] at h;cases h
def Zk3 (n:Int) (es:List (Int × Int)) (k:Nat):Prop:=∀ j,j<k→okE n (es.getD j (0,0))=true
theorem Ze1 {n:Int} {es:List (Int × Int)} {k:Nat} (h:Zk3 n es k) (d:okE n (es.getD k (0,0))=true):Zk3 n es (k+1):=by
 intro j e;by_cases c:j=k
 ·rw [c];exact d
 ·exact h j x37_
theorem isG_end {n:Int} {es:List (Int × Int)} (c:1≤n∧n≤64∧es.length≤4096) {k:Nat} (d:k=es.length) (h:Zk3 n es k):isG n es=true:=by
 unfold isG sizeB;rw [decide_eq_true c,Bool.true_and,List.all_eq_true];exact j20_
theorem idx0 (x y:Int) (w:World):(Instr.index 99 (.agg #[.int .i64 x,.int .i64 y]) (.int .i64 0)).run Tryz.prog w=.ok (.int .i64 x) w:=y37_
theorem idx1 (x y:Int) (w:World):(Instr.index 99 (.agg #[.int .i64 x,.int .i64 y]) (.int .i64 1)).run Tryz.prog w=.ok (.int .i64 y) w:=y37_
theorem Xz8 (n:Int) (v:Value) (es:List (Int × Int)) (w:World) (M:Edges w w.heap.size v es) (K:1≤n) (L:n≤64) (J:es.length≤4096) :
  Calls Tryz.prog 187 #[.int .i64 n,v] w (Says w (isG n es)):=by
 obtain ⟨A,c,rfl,_,z⟩:=M;have q:=hid z;clear z;have p:=hid (fun k=>@isG_bad n es k);have F:=hid (fun k=>@isG_end n es ⟨K,L,J⟩ k);have R:=idx0;have S:=idx1;have Q:(es.length:Int)≤4096:=x37_
 go_enter Tryz.func187,Tryz.ntmps187
 go_wp2
 go_loopw [22] (fun o wr=>∃ k:Nat,o=.int .i64 k∧k≤es.length∧Below w.heap.size w wr∧Zk3 n es k) (fun o _=>es.length - (intOf o).toNat)
 case atStart=>exact ⟨0,rfl,Nat.zero_le _,Below.refl _ _,fun j I=>absurd I x37_⟩
 case round =>
  obtain ⟨k,rfl,P,E,D⟩:=hrel;have Hwr:=hid E;clear E;have r:=hid D;clear D;by_cases C:k<es.length
  ·obtain ⟨ad,hA,hab,s,u⟩:=q.out k C
   subst hA;have N:wr.cell? (ad.add (k * 2))=some (.int .i64 (es.getD k (0,0)).1):=((Hwr.out).cell j38_).trans s;have O:wr.cell? ⟨(ad.add (k * 2)).block,(ad.add (k * 2)).off+1,none⟩=some (.int .i64 (es.getD k (0,0)).2):=((Hwr.out).cell k44_).trans u;have Hno:=hid (p.out k C);have H:=hid (Ze1 (n:=n) (es:=es) (k:=k) r.out);clear s u p q;have He:Hid (okE n (es.getD k (0,0))=decide (0≤(es.getD k (0,0)).1∧(es.getD k (0,0)).1<n∧0≤(es.getD k (0,0)).2∧(es.getD k (0,0)).2<n)):=rfl;generalize (es.getD k (0,0)).1=x at *
   generalize (es.getD k (0,0)).2=y at *
   by_cases e:0≤x∧x<n
   ·obtain ⟨hx1,hx2⟩:=e
    by_cases h:0≤y∧y<n
    ·obtain ⟨hy1,hy2⟩:=h
     have Hx:Hid (okE n (es.getD k (0,0))=true):=x25_;go_wp2;refine wp_loop_rounds 3 ?_;rw [rounds_succ];go_wp2;rw [rounds_succ];go_wp2;rw [rounds_succ];go_wp2
     go_roundw
     case rel=>exact ⟨k+1,y38_,x37_,(Hwr.out).alloc (Hwr.out).size _,H.out Hx.out⟩
     exact mz_
    ·have Hx:Hid (okE n (es.getD k (0,0))=false):=by
      show okE n (es.getD k (0,0))=false;rw [He.out,decide_eq_false_iff_not];rintro ⟨_,_,h3,d⟩;exact h ⟨h3,d⟩
     have m:y<0∨n≤y:=x37_;clear h;rcases m with m | m
     ·exact q34_
     ·have hy2:0≤y:=by omega
      exact q34_
   ·have Hx:Hid (okE n (es.getD k (0,0))=false):=by
     show okE n (es.getD k (0,0))=false;rw [He.out,decide_eq_false_iff_not];rintro ⟨h3,d,_⟩;exact e ⟨h3,d⟩
    have g:x<0∨n≤x:=x37_;clear e;rcases g with g | g
    ·go_wp2
     refine wp_loop_rounds 3 ?_;exact y7_
    ·have hx2:0≤x:=by omega
     go_wp2;refine wp_loop_rounds 3 ?_;exact y7_
  ·have B:k=es.length:=by omega
   have G:=hid (F.out k B r.out);subst B;go_wp2;go_ret;exact X8_ G.out rfl Hwr.out
theorem Yf3 (n:Int) (v:Value) (es:List (Int × Int)) (w:World) (d:Edges w w.heap.size v es) (hl:es.length≤1048576) :
  Calls Tryz.prog 187 #[.int .i64 n,v] w (Says w (isG n es)):=by
 by_cases h:1≤n∧n≤64∧es.length≤4096
 ·exact Xz8 n v es w d h.1 h.2.1 h.2.2
 ·have Hno:=hid (Jy8 h)
  have g:=hid d;obtain ⟨A,c,rfl,_⟩:=d;have k:(es.length:Int)≤1048576:=x37_;have h3:n<1∨(1≤n∧64<n)∨(1≤n∧n≤64∧4096<(es.length:Int)):=x37_;clear h;rcases h3 with h3 | ⟨h3,e⟩ | ⟨h3,e,j⟩
  ·exact j8_
  ·exact j8_
  ·exact j8_
theorem Xz9 (n:Int) (v:Value) (es:List (Int × Int)) (w:World) (c:Edges w w.heap.size v es) (hl:es.length≤1048576) {b:Bool} (hb:isG n es=b) :
  Calls Tryz.prog 187 #[.int .i64 n,v] w (Says w b):=by
 subst hb;exact Yf3 n v es w c hl
open Go.RowKit
def Labels (w:World) (g n:Nat) (f:Nat→Nat):Prop:=w.rowIs g 3 n fun i=>.int .i64 (f i:Int)
theorem Labels.congr {w:World} {g n:Nat} {f f':Nat→Nat} (h:Labels w g n f) (e:∀ i,i<n→f i=f' i):Labels w g n f':=World.rowIs.congr h fun i hi=>by rw [e i hi]
theorem Labels.set {w:World} {g n:Nat} {f:Nat→Nat} (h:Labels w g n f) (i:Nat) (v:Nat):Labels (w.setCell ⟨g,i,none⟩ (.int .i64 (v:Int))) g n (fun j=>if j=i then v else f j) :=
 World.rowIs.congr (World.rowIs.set h i _) fun j _=>z17_
def Vf1 (w:World) (g n:Nat) (f:Nat→Nat) (e:Ending) (w':World):Prop:=e=.returned (.tuple #[])∧Labels w' g n f∧w.grownBy w' (some g)
theorem Xy0 {f f':Nat→Nat} {lo hi k:Nat} (h:f'=fun v=>if f v=hi then lo else f v) :
  (f k=hi→(fun j=>if j=k then lo else if j<k then f' j else f j)=fun j=>if j<k+1 then f' j else f j)∧(f k≠hi→(fun j=>if j<k then f' j else f j)=fun j=>if j<k+1 then f' j else f j):=by
 subst h;constructor
 ·intro e
  funext j
  by_cases c:j=k
  ·subst c;simp [e]
  ·by_cases d:j<k
   ·simp [c,d,show j<k+1 by omega]
   ·simp [c,d,show ¬ j<k+1 by omega]
 ·intro e
  funext j
  by_cases c:j=k
  ·subst c;simp [e]
  ·by_cases d:j<k
   ·simp [d,show j<k+1 by omega]
   ·simp [d,show ¬ j<k+1 by omega]
theorem Yo1 (g n:Nat) (f f':Nat→Nat) (a b lo hi:Nat) (s:f'=fun v=>if f v=hi then lo else f v) (I:lo<hi) (D:(lo=a∧hi=b)∨(hi=a∧lo=b)) (w:World) (r:Labels w g n f) (J:n≤64) :
  Calls Tryz.prog 188 #[.slice (some ⟨g,0,none⟩) n n,.int .i64 a,.int .i64 b] w (Vf1 w g n f'):=by
 have B:=hid r;clear r;have h:=hid (fun k=>Xy0 (k:=k) s);clear s;have K:(n:Int)≤64:=x37_;have L:((lo:Int)==(hi:Int))=false:=by rw [beq_eq_false_iff_ne];omega
 have M:((hi:Int)==(lo:Int))=false:=by rw [beq_eq_false_iff_ne];omega
 have N:¬ hi<lo:=x37_;rcases D with ⟨p,q⟩ | ⟨p,q⟩
 all_goals
  subst p;subst q
  go_enter Tryz.func188,Tryz.ntmps188
  go_wp2
  go_loopw [21] (fun e wr=>∃ k:Nat,e=.int .i64 k∧k≤n∧Labels wr g n (fun j=>if j<k then f' j else f j)∧w.grownBy wr (some g)) (fun e _=>n - (intOf e).toNat)
  case atStart=>exact ⟨0,rfl,Nat.zero_le _,B.out.congr (fun i _=>by simp),World.grownBy.refl _ _⟩
  case round =>
   obtain ⟨k,rfl,H,y,u⟩:=hrel;have c:=hid y;have d:=hid u;clear y u;by_cases F:k<n
   ·have hc:wr.cell? ⟨g,k,none⟩=some (.int .i64 (f k:Int)):=by
     have:=c.out.cell F;simpa using this
    have G:wr.frozen? ⟨g,k,none⟩=false:=c.out.frozen k;have m:=hid (h.out k).1;have o:=hid (h.out k).2;have C:=hid (fun v=>c.out.set k v);generalize f k=x at hc m o;by_cases z:x=hi
    ·subst z
     go_wp2
     go_roundw
     case rel =>
      refine ⟨k+1,y38_,x37_,?_,O3_ d.out (.inl rfl) _⟩;rw [← m.out rfl];exact C.out _
     case measure=>simp [intOf];omega
    ·have O:((x:Int)==(hi:Int))=false:=by rw [beq_eq_false_iff_ne];omega
     go_wp2
     go_roundw
     case rel=>exact ⟨k+1,y38_,x37_,by rw [← o.out z];exact c.out,d.out⟩
     exact mz_
   ·have E:k=n:=by omega
    subst E;go_wp2
    go_end0
    exact ⟨rfl,c.out.congr (fun i hi=>by simp [hi]),d.out⟩
theorem Xh8 (g n:Nat) (f:Nat→Nat) (a b:Nat) (w:World) (d:Labels w g n f) (e:n≤64) :
  Calls Tryz.prog 188 #[.slice (some ⟨g,0,none⟩) n n,.int .i64 a,.int .i64 b] w (Vf1 w g n (R1_ f a b)):=by
 rcases Nat.lt_trichotomy a b with c | c | c
 ·refine Yo1 g n f _ a b a b ?_ c (.inl ⟨rfl,rfl⟩) w d e
  funext v
  unfold R1_;rw [Nat.max_eq_right x37_,Nat.min_eq_left x37_]
 ·subst c
  rw [Zh3];have h:=hid d;clear d;have j:(n:Int)≤64:=x37_
  go_enter Tryz.func188,Tryz.ntmps188
  go_wp2;refine bodyPost_ret (results_none rfl _ _ _) rfl ?_;exact ⟨rfl,h.out,World.grownBy.refl _ _⟩
 ·refine Yo1 g n f _ a b b a ?_ c (.inr ⟨rfl,rfl⟩) w d e
  funext v
  unfold R1_;rw [Nat.max_eq_left x37_,Nat.min_eq_right x37_]
open Go.RowKit
def castE (ns:List (Nat × Nat)):List (Int × Int):=ns.map fun e=>((e.1:Int),(e.2:Int))
theorem V3_ (c:List (Nat × Nat)):(castE c).length=c.length:=by simp [castE]
theorem K7_ (c:List (Nat × Nat)) (k:Nat):(castE c).getD k (0,0)=(((c.getD k (0,0)).1:Int),((c.getD k (0,0)).2:Int)):=by
 unfold castE;rw [List.getD_eq_getElem?_getD,List.getD_eq_getElem?_getD,List.getElem?_map];rcases c[k]? with _ | e<;>rfl
theorem Vf2 {m:Nat} {c:List (Nat × Nat)} (h:1≤m) (j:m≤64) (h3:c.length≤4096) (d:Lies m c):isG m (castE c)=true:=by
 unfold isG sizeB;rw [Bool.and_eq_true,decide_eq_true_iff,List.all_eq_true];refine ⟨⟨x37_,x37_,by rw [V3_];exact h3⟩,fun e f=>?_⟩;obtain ⟨x,g,rfl⟩:=List.mem_map.1 f;have:=d x g;simp only [okE,decide_eq_true_iff];omega
def Ze2 (w:World) (m:Nat) (f:Nat→Nat) (e:Ending) (w':World):Prop :=
 ∃ g,e=.returned (.tuple #[.slice (some ⟨g,0,none⟩) m m,.int .i64 0])∧Labels w' g m f∧w.heap.size≤g∧Below w.heap.size w w'
def E3_ (ns:List (Nat × Nat)) (k:Nat):Nat→Nat:=compF (ns.take k)
theorem Zp1 {c:List (Nat × Nat)} {k:Nat} (d:k<c.length):E3_ c (k+1)=C2_ (E3_ c k) (c.getD k (0,0)):=by
 unfold E3_;rw [List.take_succ_eq_append_getElem d,Za7];simp [List.getD,d]
theorem Yx7 {m:Nat} {c:List (Nat × Nat)} (h:Lies m c) {k:Nat} (d:k<c.length):(c.getD k (0,0)).1<m∧(c.getD k (0,0)).2<m:=by
 have:=h c[k] (List.getElem_mem d);simpa [List.getD,d] using this
theorem Xy1 (m:Nat) (v:Value) (d:List (Nat × Nat)) (w:World) (O:Edges w w.heap.size v (castE d)) (h1:1≤m) (K:m≤64) (h3:d.length≤4096) (z:Lies m d) :
  Calls Tryz.prog 177 #[.int .i64 m,v] w (Ze2 w m (compF d)):=by
 have Y:=hid O;have S:=hid (Vf2 h1 K h3 z);have X:=hid z;have hl:(castE d).length≤1048576:=by rw [V3_];omega
 obtain ⟨A,c,P,_,B⟩:=O;rw [V3_] at P B;subst P;have F:=hid B;clear B z;have x2:(m:Int)≤64:=x37_;have x1:1≤(m:Int):=x37_;have x3:(d.length:Int)≤4096:=x37_;have x0:=fun W=>run_make_row' 26 3 (.int .i64 0) 8 Tryz.underlying26 info3 rfl .i64 .i64 m x37_ x37_ W
 go_enter Tryz.func177,Tryz.ntmps177
 go_wp2_with fail
 refine (Xz9 m _ (castE d) w Y.out hl S.out).mono ?_;rintro e w1 ⟨rfl,r⟩;obtain ⟨g,hg⟩:∃ g,g=w1.heap.size:=⟨_,rfl⟩;have Hgs:Hid (w.heap.size≤g):=by
  show _≤_;rw [hg];exact r.size
 have U:Hid (Labels (w1.alloc (.cells (madeCells #[.int .i64 0] m) 3)) g m (fun j=>if j<0 then j else 0)):=j19_;have R:Hid (Below w.heap.size w (w1.alloc (.cells (madeCells #[.int .i64 0] m) 3))):=r.alloc r.size _;clear r;go_wp2;rw [← hg];clear hg x0
 go_loopw [18] (fun h wr=>∃ k:Nat,h=.int .i64 k∧k≤m∧Labels wr g m (fun j=>if j<k then j else 0)∧Below w.heap.size w wr) (fun h _=>m - (intOf h).toNat)
 case atStart=>exact ⟨0,rfl,Nat.zero_le _,U.out,R.out⟩
 case round =>
  obtain ⟨k,rfl,M,q,o⟩:=hrel;have Hlab:=hid q;have Hbr:=hid o;clear q o;by_cases hlt:k<m
  ·exact x4_
  ·have C:k=m:=by omega
   have G:=hid (Hlab.out.congr (f':=E3_ d 0) (fun i hi=>by simp [E3_,compF,show i<k by omega]));clear Hlab;go_wp2
   go_loopw [28] (fun h wr=>∃ k:Nat,h=.int .i64 k∧k≤d.length∧Labels wr g m (E3_ d k)∧Below w.heap.size w wr) (fun h _=>d.length - (intOf h).toNat)
   case atStart=>exact ⟨0,rfl,Nat.zero_le _,G.out,Hbr.out⟩
   case round =>
    clear G Hbr C hlt M;obtain ⟨k,rfl,M,q,o⟩:=hrel;have Hlab:=hid q;have Hbr:=hid o;clear q o;by_cases hlt:k<d.length
    ·obtain ⟨ad,hA,hab,q1,q2⟩:=F.out k hlt
     subst hA;rw [K7_] at q1 q2;simp only at q1 q2;have I:=(Hbr.out.cell (p:=ad.add (k * 2)) j38_).trans q1;have J:=(Hbr.out.cell (p:=⟨(ad.add (k * 2)).block,(ad.add (k * 2)).off+1,none⟩) k44_).trans q2;clear q1 q2 F;have D:=Yx7 X.out hlt;have H:=hid (Zp1 hlt);obtain ⟨⟨x,y⟩,Q⟩:∃ e,e=d.getD k (0,0):=⟨_,rfl⟩;rw [← Q] at I J D H;clear Q;simp only at I J D;obtain ⟨hx,hy⟩:=D;have x4:(x:Int)<m:=x37_;have x5:(y:Int)<m:=x37_;have u:=Blk.new wr 99 #[.int .i64 (x:Int),.int .i64 (y:Int)];have Z:=u.cell 0;have d1:=u.cell 1;simp only [List.getElem?_toArray,List.getElem?_cons_zero,List.getElem?_cons_succ] at Z d1;have s:=hid (World.rowIs.alloc Hlab.out (.cells #[.int .i64 (x:Int),.int .i64 (y:Int)] 99));have c1:=s.out.cell hx;have c2:=s.out.cell hy;have E:=hid (Hbr.out.alloc Hbr.out.size (.cells #[.int .i64 (x:Int),.int .i64 (y:Int)] 99));clear u;go_wp2;generalize wr.alloc (.cells #[.int .i64 (x:Int),.int .i64 (y:Int)] 99)=W at *
     generalize wr.heap.size=eb at *
     go_still_tail 11,y37_
     change wpList _ _ _ _ _ W.drew
     go_wp2_with fail
     refine (Xh8 g m (E3_ d k) (E3_ d k x) (E3_ d k y) W.drew s.out K).mono ?_;rintro e w3 ⟨rfl,N,L⟩;have V:=hid N;have T:=hid L;clear N L;go_wp2
     go_roundw
     case rel =>
      refine ⟨k+1,y38_,x37_,by rw [H.out];exact V.out,E.out.trans ?_⟩;exact ((Below.refl w.heap.size W).drew).grown T.out E.out.size (fun i hi=>by injection hi with hi;rw [← hi];exact Hgs.out)
     case measure=>simp [intOf];omega
    ·have C:k=d.length:=by omega
     have Hfin:=hid (Hlab.out.congr (f':=compF d) (fun i _=>by unfold E3_;rw [C,List.take_length]));exact x27_
open Go.RowKit Go.Maps
def castL (l:List Nat):List Int:=l.map fun v:Nat=>(v:Int)
def castP (pp:List (List Nat)):List (List Int):=pp.map castL
theorem C0_ (pp:List (List Nat)):(castP pp).length=pp.length:=by simp [castP]
theorem Vv0 {pp:List (List Nat)} {i:Nat} {p:List Nat} (h:pp[i]?=some p):(castP pp)[i]?=some (castL p):=by simp [castP,h]
theorem Xh9 (pp:List (List Nat)) (i:Nat) (p:List Nat):castP (pp.set i p)=(castP pp).set i (castL p):=by simp [castP,List.map_set]
theorem Zv5 (l:List Nat):(castL l).length=l.length:=by simp [castL]
theorem Zk4 (l:List Nat) (k:Nat):castL (l ++ [k])=castL l ++ [(k:Int)]:=by simp [castL]
def Zv6 (D:DataW Unit) (f:Nat→Nat) (k:Nat):Prop:=∀ r,r<k→f r=r→D.atKey (.int .i64 (r:Int)) (.lit (.int .i64 0))=.lit (.int .i64 (cnt (rootB f) r:Int))
theorem law3:Keyed Tryz.prog 3 := int_keyed Tryz.underlying3
theorem zero3 (w:World):(zeroValue 3).run Tryz.prog w=.ok (.int .i64 0) w:=y37_
theorem Yo2:(Tryz.prog.info? 26).map (fun i=>(i.zero,i.size,i.bytes))=some (some (.slice none 0 0),1,24):=y37_
theorem Yf4 {D:DataW Unit} {f:Nat→Nat} {k:Nat} (h:Zv6 D f k) (d:f k≠k):Zv6 D f (k+1):=by
 intro r g c;by_cases e:r=k
 ·subst e;exact absurd c d
 ·exact h r x37_ c
theorem isMap_of {w:World} {b n:Nat} {D:DataW Unit} (h:w.ownsMap Tryz.prog 3 (plainElem Tryz.prog 3) b n D):IsMap D:=by
 obtain ⟨_,_,_,_,_,c⟩:=h;exact ⟨_,c⟩
theorem Xy2 {D:DataW Unit} {f:Nat→Nat} {k:Nat} (h:Zv6 D f k) (c:IsMap D):Zv6 (D.put (.int .i64 (k:Int)) (.lit (.int .i64 (cnt (rootB f) k:Int)))) f (k+1):=by
 intro r j d;by_cases g:r=k
 ·subst g
  exact atKey_put_same c (show WideAt.IsKeyLit (.int .i64 (r:Int)) from trivial) _ _
 ·rw [atKey_put_other (by intro e;injection e;omega)]
  exact h r x37_ d
def Yx8 (w:World) (pp:List (List Int)) (e:Ending) (w':World):Prop :=
 ∃ v,e=.returned (.tuple #[v,.int .i64 0])∧Rows2 w' w'.heap.size v pp∧Below w.heap.size w w'
theorem Xy3 (m:Nat) (v:Value) (G:List (Nat × Nat)) (w:World) (J:Edges w w.heap.size v (castE G)) (h1:1≤m) (h2:m≤64) (h3:G.length≤4096) (h4:Lies m G) :
  Calls Tryz.prog 168 #[.int .i64 m,v] w (Yx8 w (castP (C3_ m (compF G)))):=by
 have Hr:=hid J;have Hc:=hid (Xy1 m v G w J h1 h2 h3 h4);have yz:(m:Int)≤64:=x37_;have yy:1≤(m:Int):=x37_;have P:=hid (Xa9 G);have O:=hid (Zu6 G);obtain ⟨A,c,rfl,_⟩:=J;clear h4 h3;have ys:=@run_makeMap Tryz.prog
 go_enter Tryz.func168,Tryz.ntmps168
 go_wp2_with fail
 refine Hc.out.mono ?_;rintro e w1 ⟨g,rfl,xy,hg,xb⟩;generalize compF G=f at *
 have xl:=hid xy;clear Hc xy Hr;have xw:g<w1.heap.size:=World.rowIs.lt xl.out;obtain ⟨d,hmb⟩:∃ d,d=w1.heap.size:=⟨_,rfl⟩;have xm:Hid ((w1.alloc (.map #[] 0)).ownsMap Tryz.prog 3 (plainElem (H:=Unit) Tryz.prog 3) d 0 (.map [])):=by
  show World.ownsMap _ _ _ _ _ _ _;rw [hmb];exact World.ownsMap_made w1 Tryz.prog 3 _
 have xh:Hid (Below d w1 (w1.alloc (.map #[] 0))):=y27_;have xp:Hid (d+1≤(w1.alloc (.map #[] 0)).heap.size):=by
  show _≤_;rw [hmb];simp
 have Hmbw:Hid (w.heap.size≤d):=by
  show _≤_;rw [hmb];exact xb.size
 have yo:g<d:=by rw [hmb];exact xw
 have Hb1:=hid xb;clear xb xw;go_wp2;rw [← hmb];have yx:=hid hmb;clear hmb ys
 go_loopw [8,25] (fun vp vk wr=>∃ (k:Nat) (s:List Value) (D:DataW Unit),vk=.int .i64 k∧k≤m∧wr.ownsRow (d+1) 26 1 vp s.length s∧Fam wr (d+1) s (castP (C3_ k f)) ∧
   wr.ownsMap Tryz.prog 3 (plainElem Tryz.prog 3) d k D∧Zv6 D f k∧Below d w1 wr∧d+1≤wr.heap.size) (fun _ vk _=>m - (intOf vk).toNat)
 case atStart=>exact ⟨0,[],.map [],rfl,Nat.zero_le _,World.ownsRow_nil _ _ _ _,Ye2 _ _,xm.out,fun r J=>absurd J x37_,xh.out,xp.out⟩
 case round =>
  obtain ⟨k,s,D,rfl,hk,xf,xv,y0,x0,xt,y6⟩:=hrel;clear xm xh xp;obtain ⟨vA,vc,rfl⟩:=Q6_ xf;have Hown:=hid xf;have Hfam:=hid xv;have x6:=hid y0;have xo:=hid x0;have Hbr:=hid xt;clear xf xv y0 x0 xt;by_cases yr:k<m
  ·have hc:wr.cell? ⟨g,k,none⟩=some (.int .i64 (f k:Int)):=(Hbr.out.cell (p:=⟨g,k,none⟩) (yo)).trans (xl.out.cell yr)
   have xa:Hid (s.length=cnt (rootB f) k):=by
    show _=_;rw [Hfam.out.1,C0_,A2_]
   have z3:s.length≤64:=by
    rw [xa.out];have:=B7_ (rootB f) k;omega
   have z4:(s.length:Int)≤64:=x37_;obtain ⟨x,V⟩:∃ x,x=f k:=⟨_,rfl⟩;rw [← V] at hc;have z6:x≤k:=by rw [V];exact P.out k
   have yd:Hid (f x=x):=by
    show f x=x;rw [V];exact O.out k
   have xr:=hid (WalkArith.wf_i64 (n:=(x:Int)) x37_);have yk:=hid (WalkArith.wf_i64 (n:=(s.length:Int)) x37_);have Hxe:=hid V;clear V;by_cases S:x=k
   case' pos =>
    have Hroot:=hid S;have yq:((k:Int)==(x:Int))=true:=by simp [S]
    clear S
    go_wp2_with (at_mapUpdate;refine wpList_mapUpdate_own _ rfl _ _ _ 193 rfl 3 3 law3 Tryz.underlying193 _ d k _ rfl x6.out z38_ _ _ _ rfl rfl (keyOf_int_mk Tryz.underlying3 xr.out) _ [] (plainElem_int Tryz.underlying3 yk.out) ?_)
    intro w2 y1 xx;have xn:=hid y1;have N:=hid xx;clear y1 xx;have yu:d+1≤w2.heap.size:=Nat.le_trans y6 N.out.size;have ya:∀ q,(Value.slice vA s.length vc).ownBlock=some q→d+1≤q:=fun q hq=>(Hown.out.lt q hq).1;have Y:=hid ya;clear ya;have x8:=hid (Hown.out.kept N.out (by
     rcases hb:(Value.slice vA s.length vc).ownBlock with _ | q
     ·exact .inl rfl
     ·right
      intro C;injection C with C;have:=Y.out q hb;omega))
    have X:=hid (Hfam.out.apart N.out x37_);have xi:=hid (Hbr.out.grown N.out x37_ (fun i hi=>by injection hi with hi;omega));have I:=(Blk.new w2 26 #[.slice none 0 0]).cell 0;simp only [List.getElem?_toArray,List.getElem?_cons_zero] at I;have W:=hid I;clear I
    go_wp2_with (at_builtin;refine X7_ rfl _ _ 22 26 (.slice none 0 0) 24 rfl Tryz.underlying22 Yo2 rfl (d+1) _ (.slice none 0 0) s rfl (x8.out.alloc _) w2.heap.size rfl W.out rfl x37_ x37_ k37_ ?_)
    intro yw o y3 R _;obtain ⟨y,hD⟩:∃ y,y=D.put (.int .i64 (x:Int)) (.lit (.int .i64 (s.length:Int))):=⟨_,rfl⟩;have x9:Hid (Zv6 y f (k+1)):=by
     show Zv6 _ _ _;rw [hD,Hroot.out,xa.out];exact Xy2 xo.out (isMap_of x6.out)
    have x7:Hid (o.ownsMap Tryz.prog 3 (plainElem Tryz.prog 3) d (k+1) y):=by
     show World.ownsMap _ _ _ _ _ _ _;rw [hD];refine (xn.out.alloc _).kept R ?_;intro C;have:=Y.out d C.symm;omega
    have xj:=hid ((xi.out.alloc x37_ (.cells #[.slice none 0 0] 26)).grown R k37_ (fun i hi=>by have:=Y.out i hi;omega));have yv:d+1≤o.heap.size:=Nat.le_trans k37_ R.size;obtain ⟨h,x1⟩:∃ h,h=s ++ [.slice none 0 0]:=⟨_,rfl⟩;have L:Hid (o.ownsRow (d+1) 26 1 yw h.length h):=by
     show World.ownsRow _ _ _ _ _ _ _;rw [x1,List.length_append];exact y3
    have M:Hid (Fam o (d+1) h (castP (X9_ k f))):=by
     show Fam _ _ _ _;have J:castP (X9_ k f)=castP (C3_ k f) ++ [[]]:=by
      unfold X9_;rw [← Hxe.out,if_pos Hroot.out];simp [castP,castL]
     rw [x1,J];refine Fam.more ?_;refine (X.out.new (World.grownBy_alloc _ (.cells #[.slice none 0 0] 26) none)).kept R ?_;intro v T;obtain ⟨i,hi,rfl⟩:=List.mem_iff_getElem.1 T;have xe:i<(castP (C3_ k f)).length:=by rw [← X.out.1];exact hi
     exact Zv3 (X.out.2.1 i _ _ (List.getElem?_eq_getElem hi) (List.getElem?_eq_getElem xe)) x8.out q38_
    have U:0<h.length:=by rw [x1,List.length_append];simp
    obtain ⟨go,Q,rfl,yp⟩:=M1_ L.out U;clear hD x1 U y3 R W xi X x8 Y xn N yu
   case' neg =>
    have Hroot:=hid S;have yq:((k:Int)==(x:Int))=false:=by rw [beq_eq_false_iff_ne];omega
    clear S;obtain ⟨o,rfl⟩:∃ o,o=wr:=⟨_,rfl⟩;obtain ⟨h,rfl⟩:∃ h,h=s:=⟨_,rfl⟩;obtain ⟨y,rfl⟩:∃ y,y=D:=⟨_,rfl⟩;have x9:Hid (Zv6 y f (k+1)):=Yf4 xo.out q48_;have x7:=hid (x6.out.mono (Nat.le_succ k));have xj:=Hbr;have yv:=y6;have L:=Hown;have M:Hid (Fam o (d+1) h (castP (X9_ k f))):=by
     show Fam _ _ _ _;unfold X9_;rw [← Hxe.out,if_neg Hroot.out];exact Hfam.out
    have U:0<h.length:=by
     rw [M.out.1,C0_];exact Nat.lt_of_le_of_lt (Nat.zero_le _) (Yb6 (k:=k) P.out O.out)
    obtain ⟨go,Q,T,yp⟩:=M1_ L.out U;injection T with hv1 _ hv2;subst hv1;obtain rfl:Q=vc:=hv2.symm;clear U
   all_goals
    go_wp2_with (at_lookup;refine wpList_lookup_own_int _ rfl _ _ 193 rfl 3 3 .i64 law3 Tryz.underlying193 Tryz.underlying3 (zero3 _) d (k+1) y rfl x7.out _ _ rfl (keyOf_int_mk Tryz.underlying3 xr.out) ?_)
    intro c z _;rw [x9.out x x37_ yd.out] at z;obtain rfl:c=(cnt (rootB f) x:Int):=by injection z with z;injection z with _ z;exact z.symm
    clear z;have y4:cnt (rootB f) x<(X9_ k f).length:=by rw [Hxe.out];exact Yb6 P.out O.out
    have z:(X9_ k f)[cnt (rootB f) x]?=some (X4_ k f x):=by rw [Hxe.out];exact Vh6 P.out O.out
    have yh:Hid (castP (C3_ (k+1) f)=(castP (X9_ k f)).set (cnt (rootB f) x) (castL (X4_ k f x) ++ [(k:Int)])):=by
     show _=_;rw [Ys6 P.out O.out,Xh9,Zk4,← Hxe.out]
    generalize cnt (rootB f) x=q at *
    have xg:h.length=(X9_ k f).length:=by rw [M.out.1,C0_]
    have yt:q<h.length:=by rw [xg];exact y4
    have z5:h.length≤65:=by
     rw [xg,Za9];have:=B7_ (rootB f) (k+1);omega
    have hu:h[q]?=some h[q]:=List.getElem?_eq_getElem yt;have Z:=M.out.2.1 q _ _ hu (Vv0 z);have xu:=L.out.cells (g:=go) rfl q _ hu;have yn:o.cell? ⟨go,q,none⟩=some h[q]:=by
     rw [← xu];unfold Addr.add;split<;>simp_all
    clear xu;have x0:(castL (X4_ k f x)).length≤64:=by
     rw [Zv5];have:=T3_ k f x;omega
    generalize h[q]=u at *
    have z2:(q:Int)<(h.length:Int):=x37_;obtain ⟨j,x3⟩:∃ j,j=ints (castL (X4_ k f x)):=⟨_,rfl⟩;have x2:j.length=(castL (X4_ k f x)).length:=by rw [x3,Z9_]
    rw [← x3,← x2] at Z;rw [← x2] at x0;obtain ⟨uA,uc,rfl⟩:=Q6_ Z;have x5:=hid Z;have Hu:=hid hu;have ym:=hid x3;have yl:=hid x2;clear Z hu z y4 xg xa x3 x2;have I:=(Blk.new o 3 #[.int .i64 (k:Int)]).cell 0;simp only [List.getElem?_toArray,List.getElem?_cons_zero] at I;have W:=hid I;clear I;have y8:(o.alloc (.cells #[.int .i64 (k:Int)] 3)).heap.size=o.heap.size+1:=j37_;have Hsz3:=hid y8;have y9:∀ i,(Value.slice uA j.length uc).ownBlock=some i→d+1≤i:=fun i hi=>(x5.out.lt i hi).1;have xq:=hid y9;clear y8 y9
    go_wp2_with (at_builtin;refine X7_ rfl _ _ 26 3 (.int .i64 0) 8 rfl Tryz.underlying26 info3 rfl (d+1) _ (.int .i64 (k:Int)) j rfl (x5.out.alloc _) o.heap.size rfl W.out rfl x37_ x37_ k42_ ?_)
    intro u5 B xd xc xz;have x4:=hid ((World.grownBy_alloc o (.cells #[.int .i64 (k:Int)] 3) (Value.slice uA j.length uc).ownBlock).trans xc);have y2:(Value.slice (some ⟨go,0,none⟩) h.length Q).ownBlock=none∨(Value.slice (some ⟨go,0,none⟩) h.length Q).ownBlock≠(Value.slice uA j.length uc).ownBlock:=Zv3 L.out x5.out q38_;have K:=hid (L.out.kept x4.out y2);have z0:B.cell? ⟨go,q,none⟩=some (.slice uA j.length uc):=by rw [K.out.cellAt q x37_];exact Hu.out
    have z1:B.frozen? ⟨go,q,none⟩=false:=K.out.frozenAt q;have ye:=hid xd;have xk:=hid xc;have yf:=hid xz;obtain ⟨E,F,rfl⟩:=Q6_ xd;clear xd xc xz y2 yn;have y7:(o.alloc (.cells #[.int .i64 (k:Int)] 3)).heap.size≤B.heap.size:=xk.out.size;have yc:Hid (Fam (B.setCell ⟨go,q,none⟩ (.slice E (j.length+1) F)) (d+1) (h.set q (.slice E (j.length+1) F)) (castP (C3_ (k+1) f))):=by
     show Fam _ _ _ _;rw [yh.out];have hq:ints (castL (X4_ k f x) ++ [(k:Int)])=j ++ [.int .i64 (k:Int)]:=by rw [X5_,ym.out];rfl
     have h5:Fam B (d+1) (h.set q (.slice E (j.length+1) F)) ((castP (X9_ k f)).set q (castL (X4_ k f x) ++ [(k:Int)])):=by
      refine (M.out.new (World.grownBy_alloc _ (.cells #[.int .i64 (k:Int)] 3) none)).grow Hu.out xk.out ?_ (by rw [Hsz3.out];exact yf.out);rw [hq,List.length_append,← yl.out];exact ye.out
     refine h5.kept (row:=some go) (K.out.stored q _).2 ?_;intro v T;obtain ⟨i,hi,rfl⟩:=List.mem_iff_getElem.1 T;have xe:i<((castP (X9_ k f)).set q (castL (X4_ k f x) ++ [(k:Int)])).length:=by rw [← h5.1];exact hi
     exact Zv3 (h5.2.1 i _ _ (List.getElem?_eq_getElem hi) (List.getElem?_eq_getElem xe)) K.out q38_
    have yi:Hid ((B.setCell ⟨go,q,none⟩ (.slice E (j.length+1) F)).ownsRow (d+1) 26 1 (.slice (some ⟨go,0,none⟩) h.length Q) (h.set q (.slice E (j.length+1) F)).length (h.set q (.slice E (j.length+1) F))):=by
     show World.ownsRow _ _ _ _ _ _ _;rw [List.length_set];exact (K.out.stored q _).1
    have yg:Hid ((B.setCell ⟨go,q,none⟩ (.slice E (j.length+1) F)).ownsMap Tryz.prog 3 (plainElem Tryz.prog 3) d (k+1) y):=by
     refine (x7.out.kept x4.out ?_).kept (row:=some go) (K.out.stored q _).2 ?_
     ·intro C
      have:=xq.out d C.symm;omega
     ·intro C
      injection C with C;omega
    have yb:Hid (Below d w1 (B.setCell ⟨go,q,none⟩ (.slice E (j.length+1) F))):=by
     refine (xj.out.grown x4.out x37_ (fun i hi=>by have:=xq.out i hi;omega)).setCell ?_ _;show d≤go;omega
    have y5:d+1≤(B.setCell ⟨go,q,none⟩ (.slice E (j.length+1) F)).heap.size:=by
     have:o.heap.size+1≤B.heap.size:=by rw [← Hsz3.out];exact y7
     simp [World.setCell];omega
    have yj:=hid y5;clear y5 y7;go_wp2
    go_roundw
    case rel=>exact ⟨k+1,_,y,y38_,x37_,yi.out,yc.out,yg.out,x9.out,yb.out,yj.out⟩
    exact mz_
  ·have hke:k=m:=by omega
   exact j15_
open Go.RowKit
def Vf3 (w:World) (x:Int) (e:Ending) (w':World):Prop:=e=.returned (.int .i64 x)∧Below w.heap.size w w'
def rankN (m:Nat) (ns:List (Nat × Nat)):Int:=(m:Int) - (H0_ m ns:Int)
theorem Xi0 (m:Nat) (v:Value) (d:List (Nat × Nat)) (w:World) (h:Edges w w.heap.size v (castE d)) (p:1≤m) (q:m≤64) (h3:d.length≤4096) (g:Lies m d) :
  Calls Tryz.prog 151 #[.int .i64 m,v] w (Vf3 w (rankN m d)):=by
 have o:=hid (Xy3 m v d w h p q h3 g);have y:(m:Int)≤64:=x37_;have x:1≤(m:Int):=x37_;obtain ⟨A,c,rfl,_⟩:=h;clear g h3
 go_enter Tryz.func151,Tryz.ntmps151
 go_wp2_with fail
 refine o.out.mono ?_;rintro e D ⟨C,rfl,s,r⟩;obtain ⟨u,c1,rfl,_⟩:=s;rw [C0_,A2_];have z:=B7_ (rootB (compF d)) m;have j:Hid ((m:Int) - (cnt (rootB (compF d)) m:Int)=rankN m d):=rfl;generalize cnt (rootB (compF d)) m=k at *
 have B:(k:Int)≤m:=x37_;go_wp2;go_ret;exact ⟨by rw [← j.out];rfl,r⟩
open Go.RowKit
theorem Vv1 {n:Int} {es:List (Int × Int)} {k:Nat} (c:k=es.length) (h:Zk3 n es k):isG n es=sizeB n es:=by
 unfold isG;have:es.all (okE n)=true:=by
  rw [List.all_eq_true];exact j20_
 rw [this,Bool.and_true]
theorem Yx9 (n:Int) (v:Value) (es:List (Int × Int)) (w:World) (G:Edges w w.heap.size v es) (hl:es.length≤1048576) :
  Calls Tryz.prog 174 #[.int .i64 n,v] w (Says w (isG n es)):=by
 obtain ⟨A,c,rfl,_,r⟩:=G;have q:=hid r;clear r;have g:=hid (fun k=>@isG_bad n es k);have O:(es.length:Int)≤1048576:=x37_
 go_enter Tryz.func174,Tryz.ntmps174
 go_wp2
 go_loopw [5] (fun p wr=>∃ k:Nat,p=.int .i64 k∧k≤es.length∧Below w.heap.size w wr∧Zk3 n es k) (fun p _=>es.length - (intOf p).toNat)
 case atStart=>exact ⟨0,rfl,Nat.zero_le _,Below.refl _ _,fun j F=>absurd F x37_⟩
 case round =>
  obtain ⟨k,rfl,N,B,z⟩:=hrel;have Hwr:=hid B;clear B;have m:=hid z;clear z;by_cases u:k<es.length
  ·obtain ⟨ad,hA,hab,d,e⟩:=q.out k u
   subst hA;have H:wr.cell? (ad.add (k * 2))=some (.int .i64 (es.getD k (0,0)).1):=((Hwr.out).cell j38_).trans d;have I:wr.cell? ⟨(ad.add (k * 2)).block,(ad.add (k * 2)).off+1,none⟩=some (.int .i64 (es.getD k (0,0)).2):=((Hwr.out).cell k44_).trans e;have C:=hid (g.out k u);have D:=hid (Ze1 (n:=n) (es:=es) (k:=k) m.out);clear d e g q;have P:(k:Int)<(es.length:Int):=x37_;have He:Hid (okE n (es.getD k (0,0))=decide (0≤(es.getD k (0,0)).1∧(es.getD k (0,0)).1<n∧0≤(es.getD k (0,0)).2∧(es.getD k (0,0)).2<n)):=rfl;generalize (es.getD k (0,0)).1=x at *
   generalize (es.getD k (0,0)).2=y at *
   by_cases hb:0≤x∧x<n∧0≤y∧y<n
   ·obtain ⟨hx1,hx2,hy1,hy2⟩:=hb
    have o:Hid (okE n (es.getD k (0,0))=true):=x25_;go_wp2
    go_quiet (fail)
    go_wp2
    go_roundw
    case rel=>exact ⟨k+1,y38_,x37_,Y2_ (Hwr.out) _,D.out o.out⟩
    exact mz_
   ·have o:Hid (okE n (es.getD k (0,0))=false):=by
     show okE n (es.getD k (0,0))=false;rw [He.out,decide_eq_false_iff_not];exact hb
    have E:x<0∨(0≤x∧y<0)∨(0≤x∧0≤y∧n≤x)∨(0≤x∧0≤y∧x<n∧n≤y):=x37_;clear hb;rcases E with d | ⟨d,e⟩ | ⟨d,e,h3⟩ | ⟨d,e,h3,M⟩
    all_goals
     go_wp2
     go_quiet (fail)
     go_wp2;go_ret;exact X8_ (C.out o.out) rfl (Y2_ (Hwr.out) _)
  ·have s:k=es.length:=by omega
   have Hsz:=hid (Vv1 s m.out);subst s;clear g m;by_cases d:1≤n
   ·by_cases e:n≤64
    ·by_cases h3:(es.length:Int)≤4096
     ·have Hb:Hid (sizeB n es=true):=by
       show sizeB n es=true;unfold sizeB;exact decide_eq_true ⟨d,e,x37_⟩
      exact j12_
     ·have Hb:Hid (sizeB n es=false):=by
       show sizeB n es=false;unfold sizeB;exact decide_eq_false (fun h=>h3 x37_)
      have L:4096<(es.length:Int):=x37_;exact j12_
    ·have Hb:Hid (sizeB n es=false):=by
      show sizeB n es=false;unfold sizeB;exact decide_eq_false (fun h=>e x37_)
     have K:64<n:=x37_;exact j12_
   ·have Hb:Hid (sizeB n es=false):=by
     show sizeB n es=false;unfold sizeB;exact decide_eq_false (fun h=>d x37_)
    have J:n<1:=x37_;exact j12_
theorem Yf5 (n:Int) (v:Value) (es:List (Int × Int)) (w:World) (c:Edges w w.heap.size v es) (hl:es.length≤1048576) {b:Bool} (hb:isG n es=b) :
  Calls Tryz.prog 174 #[.int .i64 n,v] w (Says w b):=by
 subst hb;exact Yx9 n v es w c hl
open Go.RowKit
def Q7_ (ns:List (Nat × Nat)) (f:Nat→Nat) (i:Nat):Nat→Nat:=(ns.take i).foldl stepF f
theorem Zg8 {c:List (Nat × Nat)} {f:Nat→Nat} {i:Nat} (hi:i<c.length):Q7_ c f (i+1)=stepF (Q7_ c f i) (c.getD i (0,0)):=by
 unfold Q7_;rw [List.take_succ_eq_append_getElem hi,List.foldl_append];simp [List.getD,hi]
theorem Zp2 (m:Nat) (v:Value) (d:List (Nat × Nat)) (w:World) (hr:Edges w w.heap.size v (castE d)) (h1:1≤m) (h2:m≤64) (h3:d.length≤4096) (F:Lies m d) :
  Calls Tryz.prog 164 #[.int .i64 m,v] w (Ze2 w m (compF d)):=by
 have Hr:=hid hr;have Hg:=hid (Vf2 h1 h2 h3 F);have Q:=hid F;have hl:(castE d).length≤1048576:=by rw [V3_];omega
 obtain ⟨A,c,hv,_,H⟩:=hr;rw [V3_] at hv H;subst hv;have O:=hid H;clear H F;have xa:(m:Int)≤64:=x37_;have x9:1≤(m:Int):=x37_;have xb:(d.length:Int)≤4096:=x37_;have x7:=fun W=>run_make_row' 26 3 (.int .i64 0) 8 Tryz.underlying26 info3 rfl .i64 .i64 m x37_ x37_ W
 go_enter Tryz.func164,Tryz.ntmps164
 go_wp2_with fail
 refine (Yf5 m _ (castE d) w Hr.out hl Hg.out).mono ?_;rintro e w1 ⟨rfl,C⟩;obtain ⟨g,hg⟩:∃ g,g=w1.heap.size:=⟨_,rfl⟩;have Hgs:Hid (w.heap.size≤g):=by
  show _≤_;rw [hg];exact C.size
 have x2:Hid (Labels (w1.alloc (.cells (madeCells #[.int .i64 0] m) 3)) g m (fun j=>if j<0 then j else 0)):=j19_;have x0:Hid (Below w.heap.size w (w1.alloc (.cells (madeCells #[.int .i64 0] m) 3))):=C.alloc C.size _;clear C;go_wp2;rw [← hg];clear hg x7
 go_loopw [7] (fun s wr=>∃ k:Nat,s=.int .i64 k∧k≤m∧Labels wr g m (fun j=>if j<k then j else 0)∧Below w.heap.size w wr) (fun s _=>m - (intOf s).toNat)
 case atStart=>exact ⟨0,rfl,Nat.zero_le _,x2.out,x0.out⟩
 case round =>
  obtain ⟨k,rfl,V,r,q⟩:=hrel;have Hlab:=hid r;have Hbr:=hid q;clear r q;by_cases hlt:k<m
  ·exact x4_
  ·have J:k=m:=by omega
   have P:=hid (Hlab.out.congr (f':=Q0_ d 0) (fun i hi=>by simp [Q0_,show i<k by omega]));clear Hlab;go_wp2
   go_loopw [8] (fun s wr=>∃ k:Nat,s=.int .i64 k∧k≤m∧Labels wr g m (Q0_ d k)∧Below w.heap.size w wr) (fun s _=>m - (intOf s).toNat)
   case atStart=>exact ⟨0,rfl,Nat.zero_le _,P.out,Hbr.out⟩
   case round =>
    clear P Hbr J hlt V;obtain ⟨k,rfl,V,r,q⟩:=hrel;have Hlab:=hid r;have Hbr:=hid q;clear r q;by_cases hlt:k<m
    ·go_wp2
     go_loopw [9] (fun N wr=>∃ i:Nat,N=.int .i64 i∧i≤d.length∧Labels wr g m (Q7_ d (Q0_ d k) i)∧Below w.heap.size w wr) (fun N _=>d.length - (intOf N).toNat)
     case atStart=>exact ⟨0,rfl,Nat.zero_le _,Hlab.out,Hbr.out⟩
     case round =>
      clear Hlab Hbr;obtain ⟨i,rfl,hi,r,q⟩:=hrel;have Hlab:=hid r;have Hbr:=hid q;clear r q;by_cases I:i<d.length
      ·obtain ⟨B,hA,hab,q1,q2⟩:=O.out i I
       subst hA;rw [K7_] at q1 q2;simp only at q1 q2;have S:=(Hbr.out.cell (p:=B.add (i * 2)) j38_).trans q1;have T:=(Hbr.out.cell (p:=⟨(B.add (i * 2)).block,(B.add (i * 2)).off+1,none⟩) (by show (B.add (i * 2)).block<_;rw [Z2_];exact hab)).trans q2;clear q1 q2 O;have K:=Yx7 Q.out I;have R:=hid (Zg8 (f:=Q0_ d k) I);obtain ⟨⟨x,y⟩,z⟩:∃ e,e=d.getD i (0,0):=⟨_,rfl⟩;rw [← z] at S T K R;clear z;simp only at S T K;obtain ⟨hx,hy⟩:=K;have c1:=Hlab.out.cell hx;have c2:=Hlab.out.cell hy;have f1:=Hlab.out.frozen x;have f2:=Hlab.out.frozen y;have xd:(x:Int)<m:=x37_;have xe:(y:Int)<m:=x37_;have xc:(i:Int)<(d.length:Int):=x37_;obtain ⟨D,L⟩:∃ p,p=Q7_ d (Q0_ d k) i x:=⟨_,rfl⟩;obtain ⟨E,M⟩:∃ p,p=Q7_ d (Q0_ d k) i y:=⟨_,rfl⟩;rw [← L] at c1;rw [← M] at c2;obtain ⟨o,Z⟩:∃ o,o=min D E:=⟨_,rfl⟩;have x3:Hid (Q7_ d (Q0_ d k) (i+1)=fun j=>if j=y then o else if j=x then o else Q7_ d (Q0_ d k) i j):=by
        show _=_;rw [R.out,Z,L,M];rfl
       clear L M;have x4:(o=D∧D≤E)∨(o=E∧E<D):=x37_;clear Z;have x8:=hid (fun W (h:Labels W g m (Q7_ d (Q0_ d k) i))=>(h.set x o).set y o);go_wp2
       go_quiet (fail)
       go_wp2;rcases x4 with ⟨rfl,x6⟩ | ⟨rfl,x6⟩
       all_goals
        go_quiet (fail)
        generalize G:wr.drewN _=W;have u:Labels W g m (Q7_ d (Q0_ d k) i):=by rw [← G];exact Hlab.out
        have U:Below w.heap.size w W:=by rw [← G];exact Y2_ Hbr.out _
        clear G;have d1:=u.cell hx;have e1:=u.frozen x;have X:=u.set x o;have d2:=u.cell hy;have e2:=u.frozen y;have Y:=X.set y o;have Hl3:=hid (Y.congr (f':=Q7_ d (Q0_ d k) (i+1)) (fun j _=>by rw [x3.out]));have Hbw:=hid U;clear u X Y U;by_cases z:x=y
        ·subst z
         exact j11_
        ·have xf:¬ y=x:=fun h=>z h.symm
         exact j11_
      ·have x5:i=d.length:=by omega
       have x1:=hid (Hlab.out.congr (f':=Q0_ d (k+1)) (fun j _=>by unfold Q7_;rw [x5,List.take_length];rfl));go_wp2
       go_roundw
       case rel=>exact ⟨k+1,y38_,x37_,x1.out,Hbr.out⟩
       exact mz_
    ·have J:k=m:=by omega
     have Hfin:=hid (Hlab.out.congr (f':=compF d) (fun j hj=>by rw [J];exact Yb4 Q.out j hj));exact x27_
open Go.RowKit
theorem Fam.push {w:World} {B:Nat} {c:List Value} {pp:List (List Int)} (h:Fam w B c pp) {u:Value} {q:List Int} (s:w.ownsRow B 3 1 u q.length (ints q)) (hd:∀ v∈c,v.ownBlock=none∨v.ownBlock≠u.ownBlock):Fam w B (c ++ [u]) (pp ++ [q]):=by
 have g:∀ (i:Nat) (v:Value),¬ i<c.length→(c ++ [u])[i]?=some v→i=c.length∧v=u:=by
  intro i v hi hv;have o:i=c.length:=x18_;subst o;rw [List.getElem?_append_right (Nat.le_refl _)] at hv;simp at hv;exact ⟨rfl,hv.symm⟩
 refine ⟨by simp [h.1],fun i v p hv hp=>?_,fun i j v z hv d r=>?_⟩
 ·by_cases hi:i<c.length
  ·exact y17_
  ·obtain ⟨rfl,rfl⟩:=g i v hi hv
   rw [h.1,List.getElem?_append_right (Nat.le_refl _)] at hp;simp at hp;subst hp;exact s
 ·by_cases hi:i<c.length
  ·rw [List.getElem?_append_left hi] at hv
   by_cases f:j<c.length
   ·rw [List.getElem?_append_left f] at d
    exact h.2.2 i j v z hv d r
   ·obtain ⟨rfl,rfl⟩:=g j z f d
    exact hd v (List.mem_of_getElem? hv)
  ·obtain ⟨rfl,rfl⟩:=g i v hi hv
   by_cases f:j<c.length
   ·rw [List.getElem?_append_left f] at d
    rcases hd z (List.mem_of_getElem? d) with m | m
    ·rcases hb:v.ownBlock with _ | k
     ·exact .inl rfl
     ·right
      rw [m];simp
    ·exact .inr fun e=>m e.symm
   ·have:=g j z f d
    omega
theorem Fam.lt {w:World} {B:Nat} {c:List Value} {pp:List (List Int)} (h:Fam w B c pp) {v:Value} (f:v∈c) {k:Nat} (e:v.ownBlock=some k):k<w.heap.size:=by
 obtain ⟨i,hi,rfl⟩:=List.mem_iff_getElem.1 f;have d:i<pp.length:=by rw [← h.1];exact hi
 exact ((h.2.1 i _ _ (List.getElem?_eq_getElem hi) (List.getElem?_eq_getElem d)).lt k e).2
theorem Fam.outer {w w':World} {B:Nat} {d:List Value} {pp:List (List Int)} (h:Fam w B d pp) {c:Value} {b n:Nat} {k:List Value} (g:w.ownsRow b 26 1 c n k) (e:w.grownBy w' c.ownBlock):Fam w' B d pp:=by
 refine h.kept e ?_;intro v j;obtain ⟨i,hi,rfl⟩:=List.mem_iff_getElem.1 j;have f:i<pp.length:=by rw [← h.1];exact hi
 exact Zv3 (h.2.1 i _ _ (List.getElem?_eq_getElem hi) (List.getElem?_eq_getElem f)) g q38_
def E2_ (m r:Nat) (f:Nat→Nat):List (List Nat):=(D4_ r f).map (X4_ m f)
theorem Yf6 {m r:Nat} {f:Nat→Nat} (h:f r=r):E2_ m (r+1) f=E2_ m r f ++ [X4_ m f r]:=by
 unfold E2_;rw [L2_,if_pos h,List.map_append];rfl
theorem Xy4 {m r:Nat} {f:Nat→Nat} (h:f r≠r):E2_ m (r+1) f=E2_ m r f:=by
 unfold E2_;rw [L2_,if_neg h,List.append_nil]
theorem Zg9 (m r:Nat) (f:Nat→Nat):(E2_ m r f).length≤r:=by
 have c:(E2_ m r f).length=cnt (rootB f) r:=by simp [E2_,D4_,cnt]
 rw [c];exact B7_ _ _
theorem Zp3 (m:Nat) (v:Value) (D:List (Nat × Nat)) (w:World) (M:Edges w w.heap.size v (castE D)) (K:1≤m) (L:m≤64) (h3:D.length≤4096) (h4:Lies m D) :
  Calls Tryz.prog 142 #[.int .i64 m,v] w (Yx8 w (castP (C3_ m (compF D)))):=by
 have Hr:=hid M;have Hc:=hid (Zp2 m v D w M K L h3 h4);have y1:(m:Int)≤64:=x37_;have y0:1≤(m:Int):=x37_;obtain ⟨A,c,rfl,_⟩:=M;clear h4 h3
 go_enter Tryz.func142,Tryz.ntmps142
 go_wp2_with fail
 refine Hc.out.mono ?_;rintro e w1 ⟨g,rfl,xf,hg,W⟩;generalize compF D=f at *
 have S:=hid xf;clear Hc xf Hr;have xc:g<w1.heap.size:=World.rowIs.lt S.out;obtain ⟨d,hmb⟩:∃ d,d=w1.heap.size:=⟨_,rfl⟩;have x3:Hid ((w1.alloc (.cells #[] 26)).ownsRow d 26 1 (.slice (some ⟨d,0,none⟩) 0 0) 0 []):=by
  show World.ownsRow _ _ _ _ _ _ _;rw [hmb];exact World.ownsRow_made w1 #[] 0 (Nat.le_refl _) z38_ rfl
 have x2:Hid (Below d w1 (w1.alloc (.cells #[] 26))):=y27_;have x7:Hid (d≤(w1.alloc (.cells #[] 26)).heap.size):=by
  show _≤_;rw [hmb];simp
 have Hmbw:Hid (w.heap.size≤d):=by
  show _≤_;rw [hmb];exact W.size
 have xd:g<d:=by rw [hmb];exact xc
 have Hb1:=hid W;clear W xc;go_wp2;rw [← hmb];clear hmb
 go_loopw [8,9] (fun vo vr wr=>∃ (r:Nat) (j:List Value),vr=.int .i64 r∧r≤m∧wr.ownsRow d 26 1 vo j.length j∧Fam wr d j (castP (E2_ m r f))∧Below d w1 wr∧d≤wr.heap.size) (fun _ vr _=>m - (intOf vr).toNat)
 case atStart=>exact ⟨0,[],rfl,Nat.zero_le _,x3.out,Ye2 _ _,x2.out,x7.out⟩
 case round =>
  obtain ⟨r,j,rfl,M,X,xb,x9,N⟩:=hrel;clear x3 x2 x7;obtain ⟨vA,vc,rfl⟩:=Q6_ X;have Hown:=hid X;have Hfam:=hid xb;have Hbr:=hid x9;clear X xb x9;have y4:j.length≤64:=by
   rw [Hfam.out.1,C0_];have:=Zg9 m r f;omega
  by_cases xw:r<m
  ·have hc:wr.cell? ⟨g,r,none⟩=some (.int .i64 (f r:Int)):=(Hbr.out.cell (p:=⟨g,r,none⟩) xd).trans (S.out.cell xw)
   obtain ⟨x,x0⟩:∃ x,x=f r:=⟨_,rfl⟩;rw [← x0] at hc;have Hxe:=hid x0;clear x0;have y3:(r:Int)<m:=x37_;by_cases H:x=r
   ·have Hroot:=hid H
    have xu:((x:Int) != (r:Int))=false:=by simp [H]
    clear H;obtain ⟨w0,rfl⟩:∃ w0,w0=wr:=⟨_,rfl⟩;have x4:Hid ((w0.alloc (.cells #[] 3)).ownsRow w0.heap.size 3 1 (.slice (some ⟨w0.heap.size,0,none⟩) 0 0) 0 []):=World.ownsRow_made w0 #[] 0 (Nat.le_refl _) z38_ rfl;have x1:Hid (Below w0.heap.size w0 (w0.alloc (.cells #[] 3))):=(Below.refl _ w0).alloc (Nat.le_refl _) _;have x6:Hid (w0.heap.size≤(w0.alloc (.cells #[] 3)).heap.size):=by
     show _≤_;simp
    go_wp2
    go_loopw [10,11] (fun vp vv wr=>∃ (k:Nat),vv=.int .i64 k∧k≤m∧wr.ownsRow w0.heap.size 3 1 vp (castL (X4_ k f r)).length (ints (castL (X4_ k f r)))∧Below w0.heap.size w0 wr∧w0.heap.size≤wr.heap.size) (fun _ vv _=>m - (intOf vv).toNat)
    case atStart=>exact ⟨0,rfl,Nat.zero_le _,x4.out,x1.out,x6.out⟩
    case round =>
     obtain ⟨k,rfl,hk,Y,x8,Z⟩:=hrel;clear x4 x1 x6;obtain ⟨o,s,rfl⟩:=Q6_ Y;have F:=hid Y;have C:=hid x8;clear Y x8;have xx:(castL (X4_ k f r)).length≤64:=by
      rw [Zv5];have:=T3_ k f r;omega
     by_cases xv:k<m
     ·have y2:(k:Int)<m:=by omega
      have xr:wr.cell? ⟨g,k,none⟩=some (.int .i64 (f k:Int)):=(C.out.cell (p:=⟨g,k,none⟩) (by show g<_;omega)).trans ((Hbr.out.cell (p:=⟨g,k,none⟩) xd).trans (S.out.cell xv));have G:=hid (R7_ k f r);generalize f k=y at xr G;by_cases J:y=r
      ·have xy:((y:Int)==(r:Int))=true:=by simp [J]
       have T:Hid (castL (X4_ (k+1) f r)=castL (X4_ k f r) ++ [(k:Int)]):=by
        show _=_;rw [G.out,if_pos J,Zk4]
       clear J G;generalize castL (X4_ k f r)=ps at *
       obtain ⟨B,P⟩:∃ B,B=ints ps:=⟨_,rfl⟩;have O:B.length=ps.length:=by rw [P,Z9_]
       have xo:=hid P;have x5:Hid (wr.ownsRow w0.heap.size 3 1 (.slice o ps.length s) B.length B):=by
        show World.ownsRow _ _ _ _ _ _ _;rw [O,P];exact F.out
       have xn:=hid O;have y5:B.length≤64:=by rw [O];exact xx
       clear P O;have z:=(Blk.new wr 3 #[.int .i64 (k:Int)]).cell 0;simp only [List.getElem?_toArray,List.getElem?_cons_zero] at z;have R:=hid z;clear z;have I:(wr.alloc (.cells #[.int .i64 (k:Int)] 3)).heap.size=wr.heap.size+1:=j37_;have Hsz3:=hid I;clear I
       go_wp2_with (at_builtin;refine X7_ rfl _ _ 26 3 (.int .i64 0) 8 rfl Tryz.underlying26 info3 rfl w0.heap.size _ (.int .i64 (k:Int)) B rfl (x5.out.alloc _) wr.heap.size rfl R.out rfl x37_ x37_ k42_ ?_)
       intro u5 E xe u _;have xl:Hid (E.ownsRow w0.heap.size 3 1 u5 (castL (X4_ (k+1) f r)).length (ints (castL (X4_ (k+1) f r)))):=by
        show World.ownsRow _ _ _ _ _ _ _;rw [T.out,X5_,← xo.out,List.length_append,← xn.out];exact xe
       have Q:=hid ((C.out.alloc Z (.cells #[.int .i64 (k:Int)] 3)).grown u k42_ (fun i hi=>(x5.out.lt i hi).1));have V:Hid (w0.heap.size≤E.heap.size):=Nat.le_trans k42_ u.size;clear xe u;go_wp2
       go_roundw
       case rel=>exact ⟨k+1,y38_,x37_,xl.out,Q.out,V.out⟩
       exact mz_
      ·have xy:((y:Int)==(r:Int))=false:=by rw [beq_eq_false_iff_ne];omega
       have T:Hid (X4_ (k+1) f r=X4_ k f r):=by
        show _=_;rw [G.out,if_neg J,List.append_nil]
       clear J G;go_wp2
       go_roundw
       case rel=>exact ⟨k+1,y38_,x37_,by rw [T.out];exact F.out,C.out,Z⟩
       exact mz_
     ·obtain rfl:m=k:=by omega
      have U:=hid (Hown.out.kept (Z8_ C.out none) (by
       rcases (Value.slice vA j.length vc).ownBlock with _ | q
       ·exact .inl rfl
       ·exact .inr j37_))
      have xj:=hid (Hfam.out.new (Z8_ C.out none));have z:=(Blk.new wr 26 #[.slice o (castL (X4_ m f r)).length s]).cell 0;simp only [List.getElem?_toArray,List.getElem?_cons_zero] at z;have R:=hid z;clear z;have I:(wr.alloc (.cells #[.slice o (castL (X4_ m f r)).length s] 26)).heap.size=wr.heap.size+1:=j37_;have Hsz3:=hid I;clear I
      go_wp2_with (at_builtin;refine X7_ rfl _ _ 22 26 (.slice none 0 0) 24 rfl Tryz.underlying22 Yo2 rfl d _ (.slice o (castL (X4_ m f r)).length s) j rfl (U.out.alloc _) wr.heap.size rfl R.out rfl x37_ x37_ k42_ ?_)
      intro xz E xg u _;have xa:Below d w1 wr:=Hbr.out.trans (C.out.mono N);have xi:d≤wr.heap.size:=Nat.le_trans N Z;have xm:Hid (E.ownsRow d 26 1 xz (j ++ [Value.slice o (castL (X4_ m f r)).length s]).length (j ++ [Value.slice o (castL (X4_ m f r)).length s])):=by
       show World.ownsRow _ _ _ _ _ _ _;rw [List.length_append];exact xg
      have xh:wr.ownsRow d 3 1 (.slice o (castL (X4_ m f r)).length s) (castL (X4_ m f r)).length (ints (castL (X4_ m f r))):=⟨F.out.1,by
       rcases F.out.2 with h | ⟨g',xp,xq,K,L,h3⟩
       ·exact .inl h
       ·exact .inr ⟨g',xp,xq,K,Nat.le_trans N L,h3⟩⟩
      have xk:Hid (Fam E d (j ++ [Value.slice o (castL (X4_ m f r)).length s]) (castP (E2_ m (r+1) f))):=by
       show Fam _ _ _ _;rw [Yf6 q48_];have xt:castP (E2_ m r f ++ [X4_ m f r])=castP (E2_ m r f) ++ [castL (X4_ m f r)]:=by simp [castP]
       rw [xt];refine Fam.outer (w:=wr.alloc (.cells #[.slice o (castL (X4_ m f r)).length s] 26)) ?_ (U.out.alloc _) u;refine Fam.new (w:=wr) ?_ (World.grownBy_alloc _ _ none);refine xj.out.push xh ?_;intro v hv;rcases hb:v.ownBlock with _ | q
       ·exact .inl rfl
       ·right
        have K:=Hfam.out.lt hv hb;intro he;have L:=(F.out.lt q he.symm).1;omega
      have Q:=hid ((xa.alloc xi (.cells #[.slice o (castL (X4_ m f r)).length s] 26)).grown u k42_ (fun i hi=>(U.out.lt i hi).1));have V:Hid (d≤E.heap.size):=Nat.le_trans k42_ u.size;clear xg u xa xi xh;go_wp2
      go_roundw
      case rel=>exact ⟨r+1,_,y38_,x37_,xm.out,xk.out,Q.out,V.out⟩
      exact mz_
   ·have Hroot:=hid H
    have xu:((x:Int) != (r:Int))=true:=by rw [bne_iff_ne];omega
    clear H;go_wp2
    go_roundw
    case rel=>exact ⟨r+1,j,y38_,x37_,Hown.out,by rw [Xy4 q48_];exact Hfam.out,Hbr.out,N⟩
    exact mz_
  ·have hke:r=m:=by omega
   exact j15_
open Go.RowKit
theorem Yv0 (m:Nat) (v:Value) (d:List (Nat × Nat)) (w:World) (h:Edges w w.heap.size v (castE d)) (p:1≤m) (q:m≤64) (h3:d.length≤4096) (g:Lies m d) :
  Calls Tryz.prog 116 #[.int .i64 m,v] w (Vf3 w (rankN m d)):=by
 have o:=hid (Zp3 m v d w h p q h3 g);have y:(m:Int)≤64:=x37_;have x:1≤(m:Int):=x37_;obtain ⟨A,c,rfl,_⟩:=h;clear g h3
 go_enter Tryz.func116,Tryz.ntmps116
 go_wp2_with fail
 refine o.out.mono ?_;rintro e D ⟨C,rfl,s,r⟩;obtain ⟨u,c1,rfl,_⟩:=s;rw [C0_,A2_];have z:=B7_ (rootB (compF d)) m;have j:Hid ((m:Int) - (cnt (rootB (compF d)) m:Int)=rankN m d):=rfl;generalize cnt (rootB (compF d)) m=k at *
 have B:(k:Int)≤m:=x37_;go_wp2;go_ret;exact ⟨by rw [← j.out];rfl,r⟩
theorem Zh0 (m:Nat) (v:Value) (d:List (Nat × Nat)) (w:World) (h:Edges w w.heap.size v (castE d)) (p:1≤m) (q:m≤64) (h3:d.length≤4096) (g:Lies m d) (b:Bool) (hb:(rankN m d==(d.length:Int))=b) :
  Calls Tryz.prog 92 #[.int .i64 m,v] w (Says w b):=by
 have o:=hid (Yv0 m v d w h p q h3 g);have k:=hid hb;obtain ⟨A,c,j,_⟩:=h;rw [V3_] at j;subst j;have u:(d.length:Int)≤4096:=x37_;clear g h3 hb
 go_enter Tryz.func92,Tryz.ntmps92
 go_wp2_with fail
 refine o.out.mono ?_;rintro e x ⟨rfl,s⟩;generalize rankN m d=r at *
 go_wp2;go_ret;exact ⟨by rw [← k.out];rfl,s⟩
end Go.Proofs.YtnaebbjodfnooaaGreatDoor.Wp
