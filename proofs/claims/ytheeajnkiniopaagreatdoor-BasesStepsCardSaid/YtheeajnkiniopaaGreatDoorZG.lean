/- What the library's listed tables give the walks; and a world that holds them. The last step of each law's row: what was there before is as it was, so the arguments read as they read. What came in as an argument reads as it did; an integer's bounds. A list of lists of integers that came in as an argument, as the walks take it. A matroid that came in as an argument, as the walks take it; how much of it there may be. -/
import Derived.Test.YtheeajnkiniopaaGreatDoorCards
import Derived.Test.YtheeajnkiniopaaGreatDoorTie
import Derived.Test.YtheeajnkiniopaaGreatDoorZM
import Derived.WalkKit
import Derived.ProofKit
import Derived.OpenShut
import Derived.LaidMore
import Derived.LaidHandle
import Derived.LaidLaws
import Derived.RowKitTokens
import Derived.Stop.Joined
import Derived.Stop.LaidErr
import Derived.Deep.DeepHandedRow
import Derived.Deep.DeepWitnessRowRef
import Derived.Lib.LaidU8
import Derived.ChangeSame
import Derived.Carry
import Derived.ChangeSlices
import Derived.WideKeyPair
import Derived.RowKit
import Derived.Test.YtheeajnkiniopaaGreatDoorZA
import Derived.Deep.Slices
import Derived.Test.YtheeajnkiniopaaGreatDoorZU
import Derived.Deep.Fields
import Derived.SizedLaws
import Derived.Test.YtheeajnkiniopaaGreatDoorX0A
import Derived.Test.YtheeajnkiniopaaGreatDoorX0B
set_option maxHeartbeats 1000000
set_option maxRecDepth 100000
namespace Go.Proofs.YtheeajnkiniopaaGreatDoor.Wp
open Go.ChangeShapes Go.WideShapes Go.ChangeAt Go.RowKit
theorem own:ownKnob Tryz.prog.godebug=none:=q30_
theorem gn64:Tryz.prog.globalNamed "math/bits.deBruijn64tab" = some 8 := q30_
theorem gt64:(Tryz.prog.globals[8]?).map (·.type)=some 202 := q30_
theorem Vz1:Tryz.prog.cellsOf 5 = 1:=q30_
open Go.ChangeShapes Go.WideShapes Go.ChangeAt Go.RowKit
section
variable {H:Type} {enc:TypeId × Value→H} {P:Program}
theorem G0_ {f:Func} {s:ChangeSpec} {apart C D B:Bool} {W g:World} {args:Array Value} {v:Value} {h gs:List (DataW H)} {d k pv:List MemPlace}
  (o:DataW.Whole enc P f.params.toList s.vars apart W args.toList h gs d)
  (y:∀ (b:Nat) (e:Nat→Bool) (hd:Bool),DataW.TrodAll enc P g b e hd f.resultTypes.toList (v.resultList f.resultTypes.size) (s.fn H (h ++ gs)).results [])
  (q:∀ e:Nat→Bool,(∀ p∈d,e p.block=true)→DataW.TrodAll enc P g 0 e true f.params.toList args.toList (s.fn H (h ++ gs)).args k)
  (z:∀ e:Nat→Bool,(∀ p∈d,e p.block=true)→DataW.TrodVars enc P g e s.vars (s.fn H (h ++ gs)).vars pv)
  (m:d=k ++ pv) (hb:Below W.heap.size W g)
  (F:∀ (j:Nat) (t:TypeId) (r:Value),f.resultTypes[j]?=some t→(v.resultList f.resultTypes.size)[j]?=some r→Value.okWide P g .any 0 t r) :
  s.post enc P f apart C D B W args v g:=by
 have w:∀ p∈d,p.block<W.heap.size:=fun p c=>o.lt p c;have x:∀ p∈d,(fun b=>decide (b<W.heap.size)) p.block=true:=fun p c=>by simpa using w p c
 refine ⟨h,gs,d,[],k,pv,o,y _ _ _,q _ x,z _ x,World.keptBut_mono (fun p c=>⟨c,?_⟩) (hb.frame (·∈d)),fun _=>?_⟩
 ·rw [m,List.mem_append] at c
  exact Or.inr c
 ·obtain ⟨_,_,_,_,_,G,E⟩:=o
  refine ⟨F,_,_,([] ++ k) ++ pv,⟨[] ++ k,pv,trodAll_append (q _ (fun _ _=>rfl)) (y _ _ _),z _ (fun _ _=>rfl),rfl,?_,?_⟩,?_⟩
  ·intro b A c
   have u:MemPlace.cell b A∈d:=by rw [m];simpa using c
   rw [hb.frozen (w _ u)];exact G b A u
  ·intro ha
   have:=E ha;rw [m] at this;simpa using this
  ·intro p c _
   rw [m];simpa using c
end
open Go.ChangeShapes Go.WideShapes Go.ChangeAt Go.RowKit
theorem Vz2:laidOutB Tryz.prog=true:=q30_
theorem E8_ {H:Type} {enc:TypeId × Value→H} {W c:World} {t:TypeId} {v:Value} {d:DataW H} {ps:List MemPlace} (g:Tryz.prog.readableRec t=true) (j:t<Tryz.prog.types.size)
  (h:DataW.Trod enc Tryz.prog W 0 (fun _=>true) true t v d ps) (hb:Below W.heap.size W c) (f:∀ x∈ps,x.block<W.heap.size) (e:Nat→Bool) (k:∀ x∈ps,e x.block=true) :
  DataW.Trod enc Tryz.prog c 0 e true t v d ps :=
 WideElems.Trod_stays Vz2 g j h (fun x m=>hb.same (f x m)) k
open Go.ChangeShapes Go.WideShapes Go.ChangeAt Go.RowKit
theorem Xr1:Tryz.prog.cellsOf 3 = 1:=q30_
theorem Vd4:Tryz.prog.cellsOf 23 = 1:=q30_
theorem Zt2 {H:Type} {enc:TypeId × Value→H} {W:World} {u:Value} {d:DataW H} {ps:List MemPlace} {fuel:Nat}
  (o:DataW.trod enc Tryz.prog W 0 (fun _=>true) true fuel 23 [u]=some (d,ps)) (p:∀ x∈ps,x.block<W.heap.size):∃ zs,Row W W.heap.size u zs:=by
 rcases open_ints Tryz.underlying23 Tryz.underlying3 Xr1 o with ⟨c,h⟩ | ⟨a,len,j,zs,c,_,hl,q,r,h,m,s⟩
 ·injection c with c _
  subst c;exact ⟨[],none,0,rfl,⟨Nat.le_refl _,x30_,fun _=>rfl⟩,fun k f=>absurd f y30_⟩
 ·injection c with c _
  subst c;simp only [Prod.mk.injEq] at h;obtain ⟨_,rfl⟩:=h;simp only [if_true] at r;have g:(zs.take len).length=len:=y32_;refine ⟨zs.take len,some a,j,by rw [g],⟨by rw [g];exact hl,q,fun e=>by cases e⟩,fun k f=>⟨a,rfl,?_,?_⟩⟩
  ·exact p (.cell a.block a.off) (MemPlace.mem_row.2 ⟨0,k29_,y30_⟩)
  ·rw [m k k29_]
   congr 2;rw [g] at f;simp [List.getD,f]
open Go.ChangeShapes Go.WideShapes Go.ChangeAt Go.RowKit
inductive Lim:Mat→Prop
 | mk {t n a b:Int} {l:List (List Int)} {i:List Mat} (h1:l.length≤140737488355328) (h2:∀ r∈l,r.length≤140737488355328) (h3:i.length≤140737488355328) (h4:∀ x∈i,Lim x):Lim (.mk t n a b l i)
theorem G1_ {H:Type} {P:Program} {e:TypeId} {d:DataW H}:∀ {l:List (DataW H)},d∈l→∀ n∈d.weights P e,n∈DataW.weightsAll P e l
 | x :: r,hd,n,hn=>by
  simp only [DataW.weightsAll,List.mem_append];rcases List.mem_cons.1 hd with rfl | h
  ·exact .inl hn
  ·exact .inr (G1_ h n hn)
section
variable {H:Type} {enc:TypeId × Value→H} {P:Program} {w:World} {base:Nat} {spare:Nat→Bool} {held:Bool}
theorem O3_ {t:TypeId} {d:Array Field} {fuel:Nat} {cs:List Value} {x:DataW H × List MemPlace} (hs:P.underlying t=some (.struct d)) (r:Go.Deep.oneCellFields P d=true) (k:P.cellsOf t=d.size)
  (h:DataW.trod enc P w base spare held fuel t cs=some x) :
  ∃ (ys:List (DataW H × List MemPlace)) (n:Nat),x=(.agg (ys.map (·.1)),ys.flatMap (·.2))∧ys.length=d.size∧cs.length=d.size∧∀ (j:Nat) (f:Field) (c:Value),d[j]?=some f→cs[j]?=some c→DataW.trod enc P w base spare held n f.type [c]=ys[j]?:=by
 obtain ⟨ys,n,_,s,hl,u,m⟩:=DataW.trod_struct hs h;refine ⟨ys,n,s,u,hl.trans k,fun j f c g hc=>?_⟩;obtain ⟨q,o⟩:=Go.Deep.hone_of r j f g;have e:=m j f g;rw [q,o] at e;rw [← e];congr 1;obtain ⟨p,rfl⟩:=List.getElem?_eq_some_iff.1 hc;rw [List.drop_eq_getElem_cons p];rfl
end
theorem Yj8:Tryz.prog.cellsOf 37 = 6:=q30_
theorem Vd5:Tryz.prog.bytesOf 3 = 8:=q30_
theorem Vd6:Tryz.prog.bytesOf 23 = 24:=q30_
theorem Yj9:1≤Tryz.prog.bytesOf 37 := q31_
theorem Vz3 {H:Type} {enc:TypeId × Value→H} {W:World} {u:Value} {d:DataW H} {ps:List MemPlace} {fuel:Nat} {zs:List Int} {B:Nat}
  (h:DataW.trod enc Tryz.prog W 0 (fun _=>true) true fuel 23 [u]=some (d,ps)) (f:Row W B u zs) (j:∀ n∈d.weights Tryz.prog 23,n≤reachBytes):zs.length≤140737488355328:=by
 obtain ⟨A,c,rfl,_⟩:=f;rcases Go.Deep.open_slice1 Tryz.underlying23 Xr1 h with ⟨e,_⟩ | ⟨a,len,o,m,n,V,D,k,e,_,_,_,_,g,_⟩
 ·simp at e
  omega
 ·simp at e
  obtain ⟨_,rfl,_⟩:=e;simp only [Prod.mk.injEq] at g;have p:=j ((zs.length+(m - zs.length)) * 8) (by rw [g.1];simp [DataW.weights,Tryz.underlying23,Vd5]);have f:=reachBytes_lt;omega
theorem Yr3 {H:Type} {enc:TypeId × Value→H} {W:World} {v:Value} {d:DataW H} {ps:List MemPlace} {fuel:Nat}
  (C:DataW.trod enc Tryz.prog W 0 (fun _=>true) true fuel 35 [v]=some (d,ps)) (w:∀ x∈ps,x.block<W.heap.size) (G:∀ n∈d.weights Tryz.prog 35,n≤reachBytes) :
  ∃ pp,Rows2 W W.heap.size v pp∧pp.length≤140737488355328∧∀ r∈pp,r.length≤140737488355328:=by
 rcases Go.Deep.open_slice1 Tryz.underlying35 Vd4 C with ⟨g,_⟩ | ⟨a,len,K,m,n,V,D,J,g,_,hl,E,y,h,u⟩
 ·simp at g
  subst g;exact ⟨[],⟨none,0,rfl,⟨Nat.le_refl _,x30_,fun _=>rfl⟩,fun k f=>absurd f y30_⟩,y30_,fun r c=>by cases c⟩
 ·simp at g
  subst g;simp only [if_true] at y;subst y;simp only [Prod.mk.injEq] at h;have B:0<m→a.block<W.heap.size:=fun L=>w (.cell a.block a.off) (by
   rw [h.2];exact List.mem_append.2 (.inl (MemPlace.mem_row.2 ⟨0,k29_,y30_⟩)))
  have s:∀ n∈DataW.weights Tryz.prog 35 (.slice ((List.range len).map D) ((List.range (m - len)).map fun j=>D (len+j))),n≤reachBytes:=by rw [← h.1];exact G
  obtain ⟨q,z⟩:=Go.Deep.choose_lt (α:=List Int) (n:=len) (p:=fun i zs=>Row W W.heap.size (V i) zs∧zs.length≤140737488355328) (fun i o=>by
   obtain ⟨_,h2⟩:=u i k29_;obtain ⟨zs,c⟩:=Zt2 h2 fun x I=>w x (by
    rw [h.2];exact List.mem_append.2 (.inr (List.mem_flatMap.2 ⟨i,List.mem_range.2 k29_,I⟩)))
   refine ⟨zs,c,Vz3 h2 c fun n F=>s n ?_⟩;simp only [DataW.weights,Tryz.underlying35];exact List.mem_cons_of_mem _ (List.mem_append.2 (.inl (G1_ (List.mem_map.2 ⟨i,List.mem_range.2 o,rfl⟩) n F))))
  refine ⟨(List.range len).map q,⟨some a,m,y30_,⟨by simpa using hl,E,fun e=>by cases e⟩,fun k f=>⟨a,V k,rfl,?_,?_,?_⟩⟩,?_,?_⟩
  ·simp at f
   exact B k29_
  ·simp at f
   exact (u k k29_).1
  ·simp at f
   have:=(z k k29_).1;simpa [List.getD,f] using this
  ·have M:=s ((len+(m - len)) * 24) (by simp [DataW.weights,Tryz.underlying35,Vd6])
   have c:=reachBytes_lt;simp;omega
  ·intro r c
   obtain ⟨i,o,rfl⟩:=List.mem_map.1 c;exact (z i (List.mem_range.1 o)).2
theorem Zy1 {H:Type} {enc:TypeId × Value→H} {W:World}:∀ (N:Nat) (d:DataW H) (fuel:Nat) (cs:List Value) (ps:List MemPlace),SizeOf.sizeOf d≤N →
  DataW.trod enc Tryz.prog W 0 (fun _=>true) true fuel 37 cs=some (d,ps)→(∀ x∈ps,x.block<W.heap.size)→(∀ n∈d.weights Tryz.prog 37,n≤reachBytes) →
  ∃ (r c1 c2 c3 c4 c5:Value) (m:Mat),cs=[r,c1,c2,c3,c4,c5]∧MatV W W.heap.size (.agg #[r,c1,c2,c3,c4,c5]) m∧Lim m:=by
 intro N
 induction N with
 | zero=>intro d fuel cs ps s;cases d<;>simp at s
 | succ N ih =>
  intro d fuel cs ps s h G hw;obtain ⟨ys,n,hx,hy,hc,f⟩:=O3_ Tryz.underlying37 q30_ q30_ h
  match ys,hy,cs,hc with
  | [y0,y1,y2,y3,y4,y5],_,[r,c1,c2,c3,c4,c5],_ =>
   have t0:=f 0 _ r rfl rfl;have t1:=f 1 _ c1 rfl rfl;have t2:=f 2 _ c2 rfl rfl;have t3:=f 3 _ c3 rfl rfl;have t4:=f 4 _ c4 rfl rfl;have t5:=f 5 _ c5 rfl rfl;simp only [Prod.mk.injEq] at hx;obtain ⟨hd,Y⟩:=hx;subst hd Y;obtain ⟨M,w,_⟩:=DataW.trod_int Tryz.underlying3 t0;obtain ⟨O,y,_⟩:=DataW.trod_int Tryz.underlying3 t1;obtain ⟨P,z,_⟩:=DataW.trod_int Tryz.underlying3 t2;obtain ⟨Q,B,_⟩:=DataW.trod_int Tryz.underlying3 t3;simp at w y z B;subst w y z B;have L:∀ n∈DataW.weightsEach Tryz.prog [3, 3, 3, 3, 35, 22] [y0.1,y1.1,y2.1,y3.1,y4.1,y5.1],n≤reachBytes:=by
    intro n o;refine hw n ?_;simp only [DataW.weights,Tryz.underlying37];exact o
   obtain ⟨l,hl,E,F⟩:=Yr3 (v:=c4) (d:=y4.1) (ps:=y4.2) (fuel:=n) t4 (fun x hx=>G x x33_) (fun n o=>L n (DataW.weights_mem_each (j:=4) (t := 35) (d:=y4.1) rfl rfl n o));have K:∀ n∈y5.1.weights Tryz.prog 22,n≤reachBytes:=fun n o=>L n (DataW.weights_mem_each (j:=5) (t := 22) (d:=y5.1) rfl rfl n o);have u:∀ x∈y5.2,x.block<W.heap.size:=fun x hx=>G x x33_;obtain ⟨d5,p5⟩:=y5;rcases Go.Deep.open_slice Tryz.underlying22 t5 with ⟨g,_⟩ | ⟨a,len,x4,m,n',D,R,g,_,X,U,J,hx,C⟩
   ·simp at g
    subst g;exact ⟨_,_,_,_,_,_,_,rfl,MatV.shut (t:=M) (n:=O) (a:=P) (b:=Q) hl (MatL.nil_ _ _),.mk E F y30_ (fun x hx=>by cases hx)⟩
   ·simp at g
    subst g;simp only [if_true] at J;subst J;simp only [Prod.mk.injEq] at hx;obtain ⟨rfl,rfl⟩:=hx;rw [Yj8] at C u;have T:0<m→a.block<W.heap.size:=fun h0=>u (.cell a.block a.off) (List.mem_append.2 (.inl (MemPlace.mem_row.2 ⟨0,k29_,y30_⟩)));have V:∀ i,i<len→∃ c:Value × Mat,SixV W (a.add (i * 6)) c.1∧MatV W W.heap.size c.1 c.2∧Lim c.2:=by
     intro i hi;obtain ⟨S,h1,h2⟩:=C i k29_;have I:D i∈(List.range len).map D:=List.mem_map.2 ⟨i,List.mem_range.2 hi,rfl⟩;have Z:SizeOf.sizeOf (D i)≤N:=by
      have s1:=List.sizeOf_lt_of_mem I;simp at s;omega
     obtain ⟨z0,z1,z2,z3,z4,z5,mm,rfl,hm1,hm2⟩:=ih (D i) n' S (R i) Z h2 (fun x hx=>u x (List.mem_append.2 (.inr (List.mem_flatMap.2 ⟨i,List.mem_range.2 k29_,hx⟩)))) (fun k hk=>K k (by
      simp only [DataW.weights,Tryz.underlying22];exact List.mem_cons_of_mem _ (List.mem_append.2 (.inl (G1_ I k hk)))))
     exact x3_
    obtain ⟨q,hq⟩:=Go.Deep.choose_lt (α:=Value × Mat) (n:=len) (p:=fun i c=>SixV W (a.add (i * 6)) c.1∧MatV W W.heap.size c.1 c.2∧Lim c.2) V;refine ⟨_,_,_,_,_,_,.mk M O P Q l ((List.range len).map fun i=>(q i).2),rfl,MatV.shut hl ⟨some a,m,y30_,⟨by simpa using X,U,fun e=>by cases e⟩,fun k hk=>⟨a,(q k).1,rfl,?_,?_,?_⟩⟩,.mk E F ?_ ?_⟩
    ·simp at hk
     exact T k29_
    ·simp at hk
     exact (hq k hk).1
    ·exact j20_
    ·have h1:=K ((len+(m - len)) * Tryz.prog.bytesOf 37) (by simp [DataW.weights,Tryz.underlying22])
     have hr:=reachBytes_lt;have hb:=Nat.mul_le_mul_left (len+(m - len)) Yj9;simp;omega
    ·exact j17_
end Go.Proofs.YtheeajnkiniopaaGreatDoor.Wp
