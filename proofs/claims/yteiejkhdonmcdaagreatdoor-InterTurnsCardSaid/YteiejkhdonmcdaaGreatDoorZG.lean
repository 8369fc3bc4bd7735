/- What the library's listed tables give the walks; and a world that holds them. The last step of each law's row: what was there before is as it was, so the arguments read as they read. What came in as an argument reads as it did; an integer's bounds. A list of lists of integers that came in as an argument, as the walks take it. A matroid that came in as an argument, as the walks take it; how much of it there may be. -/
import Derived.Test.YteiejkhdonmcdaaGreatDoorCards
import Derived.Test.YteiejkhdonmcdaaGreatDoorTie
import Derived.Test.YteiejkhdonmcdaaGreatDoorZM
import Derived.WalkKit
import Derived.ProofKit
import Derived.OpenShut
import Derived.LaidMore
import Derived.LaidHandle
import Derived.LaidLaws
import Derived.RowKitTokens
import Derived.Stop.Joined
import Derived.Stop.LaidErr
import Derived.Deep.DeepHandedRow
import Derived.Deep.DeepWitnessRowRef
import Derived.Lib.LaidU8
import Derived.ChangeSame
import Derived.Carry
import Derived.ChangeSlices
import Derived.WideKeyPair
import Derived.RowKit
import Derived.Test.YteiejkhdonmcdaaGreatDoorZA
import Derived.Deep.Slices
import Derived.Test.YteiejkhdonmcdaaGreatDoorZQ
import Derived.Deep.Fields
import Derived.SizedLaws
import Derived.Test.YteiejkhdonmcdaaGreatDoorX0A
import Derived.Test.YteiejkhdonmcdaaGreatDoorX0B
set_option maxHeartbeats 1000000
set_option maxRecDepth 100000
namespace Go.Proofs.YteiejkhdonmcdaaGreatDoor
open Go.ChangeShapes Go.WideShapes Go.ChangeAt Go.RowKit
namespace Wp
theorem own:ownKnob Tryz.prog.godebug=none:=q36_
theorem gn64:Tryz.prog.globalNamed "math/bits.deBruijn64tab" = some 8 := q36_
theorem gt64:(Tryz.prog.globals[8]?).map (·.type)=some 199 := q36_
theorem Vj8:Tryz.prog.cellsOf 5 = 1:=q36_
open Go.ChangeShapes Go.WideShapes Go.ChangeAt Go.RowKit
section
variable {H:Type} {enc:TypeId × Value→H} {P:Program}
theorem T1_ {f:Func} {s:ChangeSpec} {apart fresh C B:Bool} {W g:World} {args:Array Value} {v:Value} {h gs:List (DataW H)} {d k pv:List MemPlace}
  (o:DataW.Whole enc P f.params.toList s.vars apart W args.toList h gs d)
  (y:∀ (b:Nat) (e:Nat→Bool) (hd:Bool),DataW.TrodAll enc P g b e hd f.resultTypes.toList (v.resultList f.resultTypes.size) (s.fn H (h ++ gs)).results [])
  (q:∀ e:Nat→Bool,(∀ p∈d,e p.block=true)→DataW.TrodAll enc P g 0 e true f.params.toList args.toList (s.fn H (h ++ gs)).args k)
  (z:∀ e:Nat→Bool,(∀ p∈d,e p.block=true)→DataW.TrodVars enc P g e s.vars (s.fn H (h ++ gs)).vars pv)
  (m:d=k ++ pv) (hb:Below W.heap.size W g)
  (E:∀ (j:Nat) (t:TypeId) (r:Value),f.resultTypes[j]?=some t→(v.resultList f.resultTypes.size)[j]?=some r→Value.okWide P g .any 0 t r) :
  s.post enc P f apart fresh C B W args v g:=by
 have w:∀ p∈d,p.block<W.heap.size:=fun p c=>o.lt p c;have x:∀ p∈d,(fun b=>decide (b<W.heap.size)) p.block=true:=fun p c=>by simpa using w p c
 refine ⟨h,gs,d,[],k,pv,o,y _ _ _,q _ x,z _ x,World.keptBut_mono (fun p c=>⟨c,?_⟩) (hb.frame (·∈d)),fun _=>?_⟩
 ·rw [m,List.mem_append] at c
  exact Or.inr c
 ·obtain ⟨_,_,_,_,_,F,D⟩:=o
  refine ⟨E,_,_,([] ++ k) ++ pv,⟨[] ++ k,pv,trodAll_append (q _ (fun _ _=>rfl)) (y _ _ _),z _ (fun _ _=>rfl),rfl,?_,?_⟩,?_⟩
  ·intro b A c
   have u:MemPlace.cell b A∈d:=by rw [m];simpa using c
   rw [hb.frozen (w _ u)];exact F b A u
  ·intro ha
   have:=D ha;rw [m] at this;simpa using this
  ·intro p c _
   rw [m];simpa using c
end
open Go.ChangeShapes Go.WideShapes Go.ChangeAt Go.RowKit
theorem Vj9:laidOutB Tryz.prog=true:=q36_
theorem T2_ {H:Type} {enc:TypeId × Value→H} {W c:World} {t:TypeId} {v:Value} {d:DataW H} {ps:List MemPlace} (g:Tryz.prog.readableRec t=true) (j:t<Tryz.prog.types.size)
  (h:DataW.Trod enc Tryz.prog W 0 (fun _=>true) true t v d ps) (hb:Below W.heap.size W c) (f:∀ x∈ps,x.block<W.heap.size) (e:Nat→Bool) (k:∀ x∈ps,e x.block=true) :
  DataW.Trod enc Tryz.prog c 0 e true t v d ps :=
 WideElems.Trod_stays Vj9 g j h (fun x m=>hb.same (f x m)) k
open Go.ChangeShapes Go.WideShapes Go.ChangeAt Go.RowKit
theorem Xw5:Tryz.prog.cellsOf 3 = 1:=q36_
theorem Vi0:Tryz.prog.cellsOf 26 = 1:=q36_
theorem Yv3 {H:Type} {enc:TypeId × Value→H} {W:World} {u:Value} {d:DataW H} {ps:List MemPlace} {fuel:Nat}
  (o:DataW.trod enc Tryz.prog W 0 (fun _=>true) true fuel 26 [u]=some (d,ps)) (p:∀ x∈ps,x.block<W.heap.size):∃ zs,Row W W.heap.size u zs:=by
 rcases open_ints Tryz.underlying26 Tryz.underlying3 Xw5 o with ⟨c,h⟩ | ⟨a,len,j,zs,c,_,hl,q,r,h,m,s⟩
 ·injection c with c _
  subst c;exact ⟨[],none,0,rfl,⟨Nat.le_refl _,k36_,fun _=>rfl⟩,fun k f=>absurd f z36_⟩
 ·injection c with c _
  subst c;simp only [Prod.mk.injEq] at h;obtain ⟨_,rfl⟩:=h;simp only [if_true] at r;have g:(zs.take len).length=len:=q39_;refine ⟨zs.take len,some a,j,by rw [g],⟨by rw [g];exact hl,q,fun e=>by cases e⟩,fun k f=>⟨a,rfl,?_,?_⟩⟩
  ·exact p (.cell a.block a.off) (MemPlace.mem_row.2 ⟨0,k35_,z36_⟩)
  ·rw [m k k35_]
   congr 2;rw [g] at f;simp [List.getD,f]
open Go.ChangeShapes Go.WideShapes Go.ChangeAt Go.RowKit
inductive Lim:Mat→Prop
 | mk {t n a b:Int} {l:List (List Int)} {i:List Mat} (h1:l.length≤140737488355328) (h2:∀ r∈l,r.length≤140737488355328) (h3:i.length≤140737488355328) (h4:∀ x∈i,Lim x):Lim (.mk t n a b l i)
theorem R1_ {H:Type} {P:Program} {e:TypeId} {d:DataW H}:∀ {l:List (DataW H)},d∈l→∀ n∈d.weights P e,n∈DataW.weightsAll P e l
 | x :: r,hd,n,hn=>by
  simp only [DataW.weightsAll,List.mem_append];rcases List.mem_cons.1 hd with rfl | h
  ·exact .inl hn
  ·exact .inr (R1_ h n hn)
section
variable {H:Type} {enc:TypeId × Value→H} {P:Program} {w:World} {base:Nat} {spare:Nat→Bool} {held:Bool}
theorem T3_ {t:TypeId} {d:Array Field} {fuel:Nat} {cs:List Value} {x:DataW H × List MemPlace} (hs:P.underlying t=some (.struct d)) (r:Go.Deep.oneCellFields P d=true) (k:P.cellsOf t=d.size)
  (h:DataW.trod enc P w base spare held fuel t cs=some x) :
  ∃ (ys:List (DataW H × List MemPlace)) (n:Nat),x=(.agg (ys.map (·.1)),ys.flatMap (·.2))∧ys.length=d.size∧cs.length=d.size∧∀ (j:Nat) (f:Field) (c:Value),d[j]?=some f→cs[j]?=some c→DataW.trod enc P w base spare held n f.type [c]=ys[j]?:=by
 obtain ⟨ys,n,_,s,hl,u,m⟩:=DataW.trod_struct hs h;refine ⟨ys,n,s,u,hl.trans k,fun j f c g hc=>?_⟩;obtain ⟨q,o⟩:=Go.Deep.hone_of r j f g;have e:=m j f g;rw [q,o] at e;rw [← e];congr 1;obtain ⟨p,rfl⟩:=List.getElem?_eq_some_iff.1 hc;rw [List.drop_eq_getElem_cons p];rfl
end
theorem Xk0:Tryz.prog.cellsOf 25 = 6:=q36_
theorem Vi1:Tryz.prog.bytesOf 3 = 8:=q36_
theorem Vi2:Tryz.prog.bytesOf 26 = 24:=q36_
theorem Xk1:1≤Tryz.prog.bytesOf 25 := y37_
theorem Vq0 {H:Type} {enc:TypeId × Value→H} {W:World} {u:Value} {d:DataW H} {ps:List MemPlace} {fuel:Nat} {zs:List Int} {B:Nat}
  (h:DataW.trod enc Tryz.prog W 0 (fun _=>true) true fuel 26 [u]=some (d,ps)) (f:Row W B u zs) (j:∀ n∈d.weights Tryz.prog 26,n≤reachBytes):zs.length≤140737488355328:=by
 obtain ⟨A,c,rfl,_⟩:=f;rcases Go.Deep.open_slice1 Tryz.underlying26 Xw5 h with ⟨e,_⟩ | ⟨a,len,o,m,n,V,D,k,e,_,_,_,_,g,_⟩
 ·simp at e
  omega
 ·simp at e
  obtain ⟨_,rfl,_⟩:=e;simp only [Prod.mk.injEq] at g;have p:=j ((zs.length+(m - zs.length)) * 8) (by rw [g.1];simp [DataW.weights,Tryz.underlying26,Vi1]);have f:=reachBytes_lt;omega
theorem Xy0 {H:Type} {enc:TypeId × Value→H} {W:World} {v:Value} {d:DataW H} {ps:List MemPlace} {fuel:Nat}
  (E:DataW.trod enc Tryz.prog W 0 (fun _=>true) true fuel 22 [v]=some (d,ps)) (y:∀ x∈ps,x.block<W.heap.size) (I:∀ n∈d.weights Tryz.prog 22,n≤reachBytes) :
  ∃ pp,Rows2 W W.heap.size v pp∧pp.length≤140737488355328∧∀ r∈pp,r.length≤140737488355328:=by
 rcases Go.Deep.open_slice1 Tryz.underlying22 Vi0 E with ⟨g,_⟩ | ⟨a,len,L,m,n,V,D,K,g,_,hl,F,z,h,w⟩
 ·simp at g
  subst g;exact ⟨[],⟨none,0,rfl,⟨Nat.le_refl _,k36_,fun _=>rfl⟩,fun k f=>absurd f z36_⟩,z36_,fun r c=>by cases c⟩
 ·simp at g
  subst g;simp only [if_true] at z;subst z;simp only [Prod.mk.injEq] at h;have C:0<m→a.block<W.heap.size:=fun M=>y (.cell a.block a.off) (by
   rw [h.2];exact List.mem_append.2 (.inl (MemPlace.mem_row.2 ⟨0,k35_,z36_⟩)))
  have u:∀ n∈DataW.weights Tryz.prog 22 (.slice ((List.range len).map D) ((List.range (m - len)).map fun j=>D (len+j))),n≤reachBytes:=by rw [← h.1];exact I
  obtain ⟨q,B⟩:=Go.Deep.choose_lt (α:=List Int) (n:=len) (p:=fun i zs=>Row W W.heap.size (V i) zs∧zs.length≤140737488355328) (fun i o=>by
   obtain ⟨_,s⟩:=w i k35_;obtain ⟨zs,c⟩:=Yv3 s fun x J=>y x (by
    rw [h.2];exact List.mem_append.2 (.inr (List.mem_flatMap.2 ⟨i,List.mem_range.2 k35_,J⟩)))
   refine ⟨zs,c,Vq0 s c fun n G=>u n ?_⟩;simp only [DataW.weights,Tryz.underlying22];exact List.mem_cons_of_mem _ (List.mem_append.2 (.inl (R1_ (List.mem_map.2 ⟨i,List.mem_range.2 o,rfl⟩) n G))))
  refine ⟨(List.range len).map q,⟨some a,m,z36_,⟨by simpa using hl,F,fun e=>by cases e⟩,fun k f=>⟨a,V k,rfl,?_,?_,?_⟩⟩,?_,?_⟩
  ·simp at f
   exact C k35_
  ·simp at f
   exact (w k k35_).1
  ·simp at f
   have:=(B k k35_).1;simpa [List.getD,f] using this
  ·have N:=u ((len+(m - len)) * 24) (by simp [DataW.weights,Tryz.underlying22,Vi2])
   have c:=reachBytes_lt;simp;omega
  ·intro r c
   obtain ⟨i,o,rfl⟩:=List.mem_map.1 c;exact (B i (List.mem_range.1 o)).2
theorem Yv4 {H:Type} {enc:TypeId × Value→H} {W:World}:∀ (N:Nat) (d:DataW H) (fuel:Nat) (cs:List Value) (ps:List MemPlace),SizeOf.sizeOf d≤N →
  DataW.trod enc Tryz.prog W 0 (fun _=>true) true fuel 25 cs=some (d,ps)→(∀ x∈ps,x.block<W.heap.size)→(∀ n∈d.weights Tryz.prog 25,n≤reachBytes) →
  ∃ (u c1 c2 c3 c4 c5:Value) (m:Mat),cs=[u,c1,c2,c3,c4,c5]∧MatV W W.heap.size (.agg #[u,c1,c2,c3,c4,c5]) m∧Lim m:=by
 intro N
 induction N with
 | zero=>intro d fuel cs ps hN;cases d<;>simp at hN
 | succ N ih =>
  intro d fuel cs ps hN h M hw;obtain ⟨ys,n,hx,hy,hc,o⟩:=T3_ Tryz.underlying25 q36_ q36_ h
  match ys,hy,cs,hc with
  | [y0,y1,y2,y3,y4,y5],_,[u,c1,c2,c3,c4,c5],_ =>
   have t0:=o 0 _ u rfl rfl;have t1:=o 1 _ c1 rfl rfl;have t2:=o 2 _ c2 rfl rfl;have t3:=o 3 _ c3 rfl rfl;have t4:=o 4 _ c4 rfl rfl;have t5:=o 5 _ c5 rfl rfl;simp only [Prod.mk.injEq] at hx;obtain ⟨hd,hp⟩:=hx;subst hd hp;obtain ⟨S,B,_⟩:=DataW.trod_int Tryz.underlying3 t0;obtain ⟨T,C,_⟩:=DataW.trod_int Tryz.underlying3 t1;obtain ⟨U,E,_⟩:=DataW.trod_int Tryz.underlying3 t2;obtain ⟨V,F,_⟩:=DataW.trod_int Tryz.underlying3 t3;simp at B C E F;subst B C E F;have R:∀ n∈DataW.weightsEach Tryz.prog [3, 3, 3, 3, 22, 23] [y0.1,y1.1,y2.1,y3.1,y4.1,y5.1],n≤reachBytes:=by
    intro n s;refine hw n ?_;simp only [DataW.weights,Tryz.underlying25];exact s
   obtain ⟨l,hl,K,L⟩:=Xy0 (v:=c4) (d:=y4.1) (ps:=y4.2) (fuel:=n) t4 (fun x hx=>M x q40_) (fun n s=>R n (DataW.weights_mem_each (j:=4) (t := 22) (d:=y4.1) rfl rfl n s));have Q:∀ n∈y5.1.weights Tryz.prog 23,n≤reachBytes:=fun n s=>R n (DataW.weights_mem_each (j:=5) (t := 23) (d:=y5.1) rfl rfl n s);have y:∀ x∈y5.2,x.block<W.heap.size:=fun x hx=>M x q40_;obtain ⟨d5,p5⟩:=y5;rcases Go.Deep.open_slice Tryz.underlying23 t5 with ⟨r,_⟩ | ⟨a,len,xc,m,n',D,Pl,r,_,x8,x6,P,hx,J⟩
   ·simp at r
    subst r;exact ⟨_,_,_,_,_,_,_,rfl,MatV.shut (t:=S) (n:=T) (a:=U) (b:=V) hl (MatL.nil_ _ _),.mk K L z36_ (fun x hx=>by cases hx)⟩
   ·simp at r
    subst r;simp only [if_true] at P;subst P;simp only [Prod.mk.injEq] at hx;obtain ⟨rfl,rfl⟩:=hx;rw [Xk0] at J y;have x5:0<m→a.block<W.heap.size:=fun h0=>y (.cell a.block a.off) (List.mem_append.2 (.inl (MemPlace.mem_row.2 ⟨0,k35_,z36_⟩)));have x7:∀ i,i<len→∃ c:Value × Mat,SixV W (a.add (i * 6)) c.1∧MatV W W.heap.size c.1 c.2∧Lim c.2:=by
     intro i w;obtain ⟨x4,I,h2⟩:=J i k35_;have O:D i∈(List.range len).map D:=List.mem_map.2 ⟨i,List.mem_range.2 w,rfl⟩;have xb:SizeOf.sizeOf (D i)≤N:=by
      have s1:=List.sizeOf_lt_of_mem O;simp at hN;omega
     obtain ⟨X,Y,Z,z3,z4,z5,mm,rfl,x9,xa⟩:=ih (D i) n' x4 (Pl i) xb h2 (fun x hx=>y x (List.mem_append.2 (.inr (List.mem_flatMap.2 ⟨i,List.mem_range.2 k35_,hx⟩)))) (fun k f=>Q k (by
      simp only [DataW.weights,Tryz.underlying23];exact List.mem_cons_of_mem _ (List.mem_append.2 (.inl (R1_ O k f)))))
     obtain ⟨_,_,g⟩:=World.cells?_some I;have G:=g 0 k36_;have g1:=g 1 k36_;have g2:=g 2 k36_;have g3:=g 3 k36_;have g4:=g 4 k36_;have g5:=g 5 k36_;rw [add_zero] at G;refine ⟨(.agg #[X,Y,Z,z3,z4,z5],mm),⟨X,Y,Z,z3,z4,z5,rfl,by simpa using G,?_,?_,?_,?_,?_⟩,x9,xa⟩
     ·simpa [Addr.add] using g1
     ·simpa [Addr.add] using g2
     ·simpa [Addr.add] using g3
     ·simpa [Addr.add] using g4
     ·simpa [Addr.add] using g5
    obtain ⟨q,z⟩:=Go.Deep.choose_lt (α:=Value × Mat) (n:=len) (p:=fun i c=>SixV W (a.add (i * 6)) c.1∧MatV W W.heap.size c.1 c.2∧Lim c.2) x7;refine ⟨_,_,_,_,_,_,.mk S T U V l ((List.range len).map fun i=>(q i).2),rfl,MatV.shut hl ⟨some a,m,z36_,⟨by simpa using x8,x6,fun e=>by cases e⟩,fun k f=>⟨a,(q k).1,rfl,?_,?_,?_⟩⟩,.mk K L ?_ ?_⟩
    ·simp at f
     exact x5 k35_
    ·simp at f
     exact (z k f).1
    ·simp at f
     have:=(z k f).2.1;simpa [List.getD,f] using this
    ·have I:=Q ((len+(m - len)) * Tryz.prog.bytesOf 25) (by simp [DataW.weights,Tryz.underlying23])
     have hr:=reachBytes_lt;have hb:=Nat.mul_le_mul_left (len+(m - len)) Xk1;simp;omega
    ·intro x hx
     obtain ⟨i,w,rfl⟩:=List.mem_map.1 hx;exact (z i (List.mem_range.1 w)).2.2
end Wp
end Go.Proofs.YteiejkhdonmcdaaGreatDoor
