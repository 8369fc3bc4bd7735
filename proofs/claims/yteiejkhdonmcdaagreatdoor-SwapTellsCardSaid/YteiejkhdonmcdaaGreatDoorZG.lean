/- What the library's listed tables give the walks; and a world that holds them. The last step of each law's row: what was there before is as it was, so the arguments read as they read. What came in as an argument reads as it did; an integer's bounds. A list of lists of integers that came in as an argument, as the walks take it. A matroid that came in as an argument, as the walks take it; how much of it there may be. -/
import Derived.Test.YteiejkhdonmcdaaGreatDoorCards
import Derived.Test.YteiejkhdonmcdaaGreatDoorTie
import Derived.Test.YteiejkhdonmcdaaGreatDoorZM
import Derived.WalkKit
import Derived.ProofKit
import Derived.OpenShut
import Derived.LaidMore
import Derived.LaidHandle
import Derived.LaidLaws
import Derived.RowKitTokens
import Derived.Stop.Joined
import Derived.Stop.LaidErr
import Derived.Deep.DeepHandedRow
import Derived.Deep.DeepWitnessRowRef
import Derived.Lib.LaidU8
import Derived.ChangeSame
import Derived.Carry
import Derived.ChangeSlices
import Derived.WideKeyPair
import Derived.RowKit
import Derived.Test.YteiejkhdonmcdaaGreatDoorZA
import Derived.Deep.Slices
import Derived.Test.YteiejkhdonmcdaaGreatDoorZQ
import Derived.Deep.Fields
import Derived.SizedLaws
import Derived.Test.YteiejkhdonmcdaaGreatDoorX0A
import Derived.Test.YteiejkhdonmcdaaGreatDoorX0B
set_option maxHeartbeats 1000000
set_option maxRecDepth 100000
namespace Go.Proofs.YteiejkhdonmcdaaGreatDoor
open Go.ChangeShapes Go.WideShapes Go.ChangeAt Go.RowKit
namespace Wp
theorem own:ownKnob Tryz.prog.godebug=none:=x39_
theorem gn64:Tryz.prog.globalNamed "math/bits.deBruijn64tab" = some 8 := x39_
theorem gt64:(Tryz.prog.globals[8]?).map (·.type)=some 199 := x39_
theorem Vc0:Tryz.prog.cellsOf 5 = 1:=x39_
def laidM:List (String × DataW Unit):=[("math/bits.deBruijn32tab",Rows.laid_math_bits_deBruijn32tab),("math/bits.deBruijn64tab",Rows.laid_math_bits_deBruijn64tab)]
open Go.ChangeShapes Go.WideShapes Go.ChangeAt Go.RowKit
section
variable {H:Type} {enc:TypeId × Value→H} {P:Program}
theorem G5_ {f:Func} {s:ChangeSpec} {apart fresh B A:Bool} {W g:World} {args:Array Value} {v:Value} {h gs:List (DataW H)} {d k pv:List MemPlace}
  (o:DataW.Whole enc P f.params.toList s.vars apart W args.toList h gs d)
  (y:∀ (b:Nat) (e:Nat→Bool) (hd:Bool),DataW.TrodAll enc P g b e hd f.resultTypes.toList (v.resultList f.resultTypes.size) (s.fn H (h ++ gs)).results [])
  (q:∀ e:Nat→Bool,(∀ p∈d,e p.block=true)→DataW.TrodAll enc P g 0 e true f.params.toList args.toList (s.fn H (h ++ gs)).args k)
  (z:∀ e:Nat→Bool,(∀ p∈d,e p.block=true)→DataW.TrodVars enc P g e s.vars (s.fn H (h ++ gs)).vars pv)
  (m:d=k ++ pv) (hb:Below W.heap.size W g)
  (D:∀ (j:Nat) (t:TypeId) (r:Value),f.resultTypes[j]?=some t→(v.resultList f.resultTypes.size)[j]?=some r→Value.okWide P g .any 0 t r) :
  s.post enc P f apart fresh B A W args v g:=by
 have w:∀ p∈d,p.block<W.heap.size:=fun p c=>o.lt p c;have x:∀ p∈d,(fun b=>decide (b<W.heap.size)) p.block=true:=fun p c=>by simpa using w p c
 refine ⟨h,gs,d,[],k,pv,o,y _ _ _,q _ x,z _ x,World.keptBut_mono (fun p c=>⟨c,?_⟩) (hb.frame (·∈d)),fun _=>?_⟩
 ·rw [m,List.mem_append] at c
  exact Or.inr c
 ·obtain ⟨_,_,_,_,_,E,C⟩:=o
  refine ⟨D,_,_,([] ++ k) ++ pv,⟨[] ++ k,pv,trodAll_append (q _ (fun _ _=>rfl)) (y _ _ _),z _ (fun _ _=>rfl),rfl,?_,?_⟩,?_⟩
  ·intro b off c
   have u:MemPlace.cell b off∈d:=by rw [m];simpa using c
   rw [hb.frozen (w _ u)];exact E b off u
  ·intro ha
   have:=C ha;rw [m] at this;simpa using this
  ·intro p c _
   rw [m];simpa using c
end
open Go.ChangeShapes Go.WideShapes Go.ChangeAt Go.RowKit
theorem Vc1:laidOutB Tryz.prog=true:=x39_
theorem A1_ {H:Type} {enc:TypeId × Value→H} {W c:World} {t:TypeId} {v:Value} {d:DataW H} {ps:List MemPlace} (g:Tryz.prog.readableRec t=true) (j:t<Tryz.prog.types.size)
  (h:DataW.Trod enc Tryz.prog W 0 (fun _=>true) true t v d ps) (hb:Below W.heap.size W c) (f:∀ x∈ps,x.block<W.heap.size) (e:Nat→Bool) (k:∀ x∈ps,e x.block=true) :
  DataW.Trod enc Tryz.prog c 0 e true t v d ps :=
 WideElems.Trod_stays Vc1 g j h (fun x m=>hb.same (f x m)) k
open Go.ChangeShapes Go.WideShapes Go.ChangeAt Go.RowKit
theorem Yh2:Tryz.prog.cellsOf 3 = 1:=x39_
theorem Vx7:Tryz.prog.cellsOf 26 = 1:=x39_
theorem Zb3 {H:Type} {enc:TypeId × Value→H} {W:World} {u:Value} {d:DataW H} {ps:List MemPlace} {fuel:Nat}
  (j:DataW.trod enc Tryz.prog W 0 (fun _=>true) true fuel 26 [u]=some (d,ps)) (m:∀ x∈ps,x.block<W.heap.size):∃ zs,Row W W.heap.size u zs:=by
 rcases open_ints Tryz.underlying26 Tryz.underlying3 Yh2 j with ⟨c,f⟩ | ⟨a,g,h,zs,c,_,hl,o,p,f,hcell,q⟩
 ·injection c with c _
  subst c;exact j14_
 ·injection c with c _
  subst c;simp only [Prod.mk.injEq] at f;obtain ⟨_,rfl⟩:=f;simp only [if_true] at p;have hlen:(zs.take g).length=g:=y42_;refine ⟨zs.take g,some a,h,by rw [hlen],⟨by rw [hlen];exact hl,o,fun e=>by cases e⟩,fun k hk=>⟨a,rfl,?_,?_⟩⟩
  ·exact m (.cell a.block a.off) (MemPlace.mem_row.2 ⟨0,q39_,j39_⟩)
  ·exact j26_
theorem Zu5 {H:Type} {enc:TypeId × Value→H} {W:World} {v:Value} {d:DataW H} {ps:List MemPlace} {base:Nat} (y:Value.okWide Tryz.prog W .any base 22 v)
  (h:DataW.Trod enc Tryz.prog W 0 (fun _=>true) true 22 v d ps) (j:∀ x∈ps,x.block<W.heap.size):∃ pp,Rows2 W W.heap.size v pp:=by
 obtain ⟨E,B,F,rfl⟩:=okWide_slice Tryz.underlying22 y;obtain ⟨fuel,s⟩:=h;rcases Go.Deep.open_slice1 Tryz.underlying22 Vx7 s with ⟨hcs,_⟩ | ⟨a,J,G,m,n,V,D,C,hcs,_,hl,u,o,c,f⟩
 ·exact z36_
 ·simp [Value.cells] at hcs
  obtain ⟨rfl,rfl,rfl⟩:=hcs;simp only [if_true] at o;subst o;simp only [Prod.mk.injEq] at c;have hblk:0<m→a.block<W.heap.size:=fun I=>j (.cell a.block a.off) (by
   rw [c.2];exact List.mem_append.2 (.inl (MemPlace.mem_row.2 ⟨0,q39_,j39_⟩)))
  obtain ⟨q,w⟩:=Go.Deep.choose_lt (α:=List Int) (n:=m) (p:=fun i zs=>Row W W.heap.size (V i) zs) (fun i g=>by
   obtain ⟨_,r⟩:=f i g;exact Zb3 r fun x z=>j x (by
    rw [c.2];exact List.mem_append.2 (.inr (List.mem_flatMap.2 ⟨i,List.mem_range.2 g,z⟩))))
  refine ⟨(List.range B).map q,some a,m,j39_,⟨by simpa using hl,u,fun e=>by cases e⟩,fun k hk=>⟨a,V k,rfl,?_,?_,?_⟩⟩
  ·exact k24_
  ·simp at hk
   exact (f k q39_).1
  ·simp at hk
   have:=w k q39_;simpa [List.getD,hk] using this
theorem P7_ {H:Type} {enc:TypeId × Value→H} {W:World} {v:Value} {d:DataW H} {ps:List MemPlace} {base:Nat} (q:Value.okWide Tryz.prog W .any base 26 v)
  (h:DataW.Trod enc Tryz.prog W 0 (fun _=>true) true 26 v d ps) (o:∀ x∈ps,x.block<W.heap.size):∃ zs,Row W W.heap.size v zs:=by
 obtain ⟨s,f,g,rfl⟩:=okWide_slice Tryz.underlying26 q;obtain ⟨fuel,m⟩:=h;rcases open_ints Tryz.underlying26 Tryz.underlying3 Yh2 m with ⟨hcs,c⟩ | ⟨a,y,u,zs,hcs,_,hl,p,r,c,hcell,w⟩
 ·exact z36_
 ·simp [Value.cells] at hcs
  obtain ⟨rfl,rfl,rfl⟩:=hcs;simp only [Prod.mk.injEq] at c;obtain ⟨_,rfl⟩:=c;simp only [if_true] at r;have hlen:(zs.take f).length=f:=y42_;refine ⟨zs.take f,some a,g,by rw [hlen],⟨by rw [hlen];exact hl,p,fun e=>by cases e⟩,fun k hk=>⟨a,rfl,?_,?_⟩⟩
  ·have j:=o (.cell a.block a.off) (MemPlace.mem_row.2 ⟨0,q39_,j39_⟩)
   exact j
  ·exact j26_
open Go.ChangeShapes Go.WideShapes Go.ChangeAt Go.RowKit
inductive Lim:Mat→Prop
 | mk {t n a b:Int} {l:List (List Int)} {i:List Mat} (h1:l.length≤140737488355328) (h2:∀ r∈l,r.length≤140737488355328) (h3:i.length≤140737488355328) (h4:∀ x∈i,Lim x):Lim (.mk t n a b l i)
theorem L7_ {H:Type} {P:Program} {e:TypeId} {d:DataW H}:∀ {l:List (DataW H)},d∈l→∀ n∈d.weights P e,n∈DataW.weightsAll P e l
 | x :: r,hd,n,hn=>by
  simp only [DataW.weightsAll,List.mem_append];rcases List.mem_cons.1 hd with rfl | h
  ·exact .inl hn
  ·exact .inr (L7_ h n hn)
section
variable {H:Type} {enc:TypeId × Value→H} {P:Program} {w:World} {base:Nat} {spare:Nat→Bool} {held:Bool}
theorem T4_ {t:TypeId} {d:Array Field} {fuel:Nat} {cs:List Value} {x:DataW H × List MemPlace} (hs:P.underlying t=some (.struct d)) (r:Go.Deep.oneCellFields P d=true) (k:P.cellsOf t=d.size)
  (h:DataW.trod enc P w base spare held fuel t cs=some x) :
  ∃ (ys:List (DataW H × List MemPlace)) (n:Nat),x=(.agg (ys.map (·.1)),ys.flatMap (·.2))∧ys.length=d.size∧cs.length=d.size∧∀ (j:Nat) (f:Field) (c:Value),d[j]?=some f→cs[j]?=some c→DataW.trod enc P w base spare held n f.type [c]=ys[j]?:=by
 obtain ⟨ys,n,_,s,hl,u,m⟩:=DataW.trod_struct hs h;refine ⟨ys,n,s,u,hl.trans k,fun j f c g hc=>?_⟩;obtain ⟨q,o⟩:=Go.Deep.hone_of r j f g;have e:=m j f g;rw [q,o] at e;rw [← e];congr 1;obtain ⟨p,rfl⟩:=List.getElem?_eq_some_iff.1 hc;rw [List.drop_eq_getElem_cons p];rfl
end
theorem Yh3:Tryz.prog.cellsOf 25 = 6:=x39_
theorem Vm0:Tryz.prog.bytesOf 3 = 8:=x39_
theorem Vm1:Tryz.prog.bytesOf 26 = 24:=x39_
theorem Yh4:1≤Tryz.prog.bytesOf 25 := y40_
theorem Vc2 {H:Type} {enc:TypeId × Value→H} {W:World} {u:Value} {d:DataW H} {ps:List MemPlace} {fuel:Nat} {zs:List Int} {B:Nat}
  (h:DataW.trod enc Tryz.prog W 0 (fun _=>true) true fuel 26 [u]=some (d,ps)) (f:Row W B u zs) (j:∀ n∈d.weights Tryz.prog 26,n≤reachBytes):zs.length≤140737488355328:=by
 obtain ⟨A,c,rfl,_⟩:=f;rcases Go.Deep.open_slice1 Tryz.underlying26 Yh2 h with ⟨e,_⟩ | ⟨a,q,o,m,n,V,D,k,e,_,_,_,_,g,_⟩
 ·simp at e
  omega
 ·simp at e
  obtain ⟨_,rfl,_⟩:=e;simp only [Prod.mk.injEq] at g;have p:=j ((zs.length+(m - zs.length)) * 8) (by rw [g.1];simp [DataW.weights,Tryz.underlying26,Vm0]);have f:=reachBytes_lt;omega
theorem Xv7 {H:Type} {enc:TypeId × Value→H} {W:World} {v:Value} {d:DataW H} {ps:List MemPlace} {fuel:Nat}
  (B:DataW.trod enc Tryz.prog W 0 (fun _=>true) true fuel 22 [v]=some (d,ps)) (y:∀ x∈ps,x.block<W.heap.size) (F:∀ n∈d.weights Tryz.prog 22,n≤reachBytes) :
  ∃ pp,Rows2 W W.heap.size v pp∧pp.length≤140737488355328∧∀ r∈pp,r.length≤140737488355328:=by
 rcases Go.Deep.open_slice1 Tryz.underlying22 Vx7 B with ⟨g,_⟩ | ⟨a,f,J,m,n,V,D,I,g,_,hl,C,z,h,w⟩
 ·simp at g
  subst g;exact ⟨[],⟨none,0,rfl,⟨Nat.le_refl _,x40_,fun _=>rfl⟩,fun k hk=>absurd hk j39_⟩,j39_,fun r c=>by cases c⟩
 ·simp at g
  subst g;simp only [if_true] at z;subst z;simp only [Prod.mk.injEq] at h;have hblk:0<m→a.block<W.heap.size:=fun K=>y (.cell a.block a.off) (by
   rw [h.2];exact List.mem_append.2 (.inl (MemPlace.mem_row.2 ⟨0,q39_,j39_⟩)))
  have u:∀ n∈DataW.weights Tryz.prog 22 (.slice ((List.range f).map D) ((List.range (m - f)).map fun j=>D (f+j))),n≤reachBytes:=by rw [← h.1];exact F
  obtain ⟨q,hq⟩:=Go.Deep.choose_lt (α:=List Int) (n:=f) (p:=fun i zs=>Row W W.heap.size (V i) zs∧zs.length≤140737488355328) (fun i o=>by
   obtain ⟨_,s⟩:=w i q39_;obtain ⟨zs,c⟩:=Zb3 s fun x G=>y x (by
    rw [h.2];exact List.mem_append.2 (.inr (List.mem_flatMap.2 ⟨i,List.mem_range.2 q39_,G⟩)))
   refine ⟨zs,c,Vc2 s c fun n E=>u n ?_⟩;simp only [DataW.weights,Tryz.underlying22];exact List.mem_cons_of_mem _ (List.mem_append.2 (.inl (L7_ (List.mem_map.2 ⟨i,List.mem_range.2 o,rfl⟩) n E))))
  refine ⟨(List.range f).map q,⟨some a,m,j39_,⟨by simpa using hl,C,fun e=>by cases e⟩,fun k hk=>⟨a,V k,rfl,?_,?_,?_⟩⟩,?_,?_⟩
  ·exact k24_
  ·simp at hk
   exact (w k q39_).1
  ·exact j27_
  ·have L:=u ((f+(m - f)) * 24) (by simp [DataW.weights,Tryz.underlying22,Vm1])
   have c:=reachBytes_lt;simp;omega
  ·intro r c
   obtain ⟨i,o,rfl⟩:=List.mem_map.1 c;exact (hq i (List.mem_range.1 o)).2
theorem Zb4 {H:Type} {enc:TypeId × Value→H} {W:World}:∀ (N:Nat) (d:DataW H) (fuel:Nat) (cs:List Value) (ps:List MemPlace),SizeOf.sizeOf d≤N →
  DataW.trod enc Tryz.prog W 0 (fun _=>true) true fuel 25 cs=some (d,ps)→(∀ x∈ps,x.block<W.heap.size)→(∀ n∈d.weights Tryz.prog 25,n≤reachBytes) →
  ∃ (s c1 c2 c3 c4 c5:Value) (m:Mat),cs=[s,c1,c2,c3,c4,c5]∧MatV W W.heap.size (.agg #[s,c1,c2,c3,c4,c5]) m∧Lim m:=by
 intro N
 induction N with
 | zero=>intro d fuel cs ps u;cases d<;>simp at u
 | succ N ih =>
  intro d fuel cs ps u h I hw;obtain ⟨ys,n,hx,hy,hc,g⟩:=T4_ Tryz.underlying25 x39_ x39_ h
  match ys,hy,cs,hc with
  | [y0,y1,y2,y3,y4,y5],_,[s,c1,c2,c3,c4,c5],_ =>
   have t0:=g 0 _ s rfl rfl;have t1:=g 1 _ c1 rfl rfl;have t2:=g 2 _ c2 rfl rfl;have t3:=g 3 _ c3 rfl rfl;have t4:=g 4 _ c4 rfl rfl;have t5:=g 5 _ c5 rfl rfl;simp only [Prod.mk.injEq] at hx;obtain ⟨hd,Z⟩:=hx;subst hd Z;obtain ⟨O,y,_⟩:=DataW.trod_int Tryz.underlying3 t0;obtain ⟨P,z,_⟩:=DataW.trod_int Tryz.underlying3 t1;obtain ⟨Q,B,_⟩:=DataW.trod_int Tryz.underlying3 t2;obtain ⟨R,C,_⟩:=DataW.trod_int Tryz.underlying3 t3;simp at y z B C;subst y z B C;have M:∀ n∈DataW.weightsEach Tryz.prog [3, 3, 3, 3, 22, 23] [y0.1,y1.1,y2.1,y3.1,y4.1,y5.1],n≤reachBytes:=by
    intro n r;refine hw n ?_;simp only [DataW.weights,Tryz.underlying25];exact r
   obtain ⟨l,hl,F,G⟩:=Xv7 (v:=c4) (d:=y4.1) (ps:=y4.2) (fuel:=n) t4 (fun x hx=>I x z42_) (fun n r=>M n (DataW.weights_mem_each (j:=4) (t := 22) (d:=y4.1) rfl rfl n r));have L:∀ n∈y5.1.weights Tryz.prog 23,n≤reachBytes:=fun n r=>M n (DataW.weights_mem_each (j:=5) (t := 23) (d:=y5.1) rfl rfl n r);have w:∀ x∈y5.2,x.block<W.heap.size:=fun x hx=>I x z42_;obtain ⟨d5,p5⟩:=y5;rcases Go.Deep.open_slice Tryz.underlying23 t5 with ⟨o,_⟩ | ⟨a,f,x5,m,n',D,S,o,_,Y,V,K,hx,E⟩
   ·simp at o
    subst o;exact ⟨_,_,_,_,_,_,_,rfl,MatV.shut (t:=O) (n:=P) (a:=Q) (b:=R) hl (MatL.nil_ _ _),.mk F G j39_ (fun x hx=>by cases hx)⟩
   ·simp at o
    subst o;simp only [if_true] at K;subst K;simp only [Prod.mk.injEq] at hx;obtain ⟨rfl,rfl⟩:=hx;rw [Yh3] at E w;have hblk:0<m→a.block<W.heap.size:=fun h0=>w (.cell a.block a.off) (List.mem_append.2 (.inl (MemPlace.mem_row.2 ⟨0,q39_,j39_⟩)));have X:∀ i,i<f→∃ c:Value × Mat,SixV W (a.add (i * 6)) c.1∧MatV W W.heap.size c.1 c.2∧Lim c.2:=by
     intro i hi;obtain ⟨T,h1,U⟩:=E i q39_;have J:D i∈(List.range f).map D:=List.mem_map.2 ⟨i,List.mem_range.2 hi,rfl⟩;have x4:SizeOf.sizeOf (D i)≤N:=by
      have s1:=List.sizeOf_lt_of_mem J;simp at u;omega
     obtain ⟨z0,z1,z2,z3,z4,z5,mm,rfl,hm1,hm2⟩:=ih (D i) n' T (S i) x4 U (fun x hx=>w x (List.mem_append.2 (.inr (List.mem_flatMap.2 ⟨i,List.mem_range.2 q39_,hx⟩)))) (fun k hk=>L k (by
      simp only [DataW.weights,Tryz.underlying23];exact List.mem_cons_of_mem _ (List.mem_append.2 (.inl (L7_ J k hk)))))
     exact j4_
    obtain ⟨q,hq⟩:=Go.Deep.choose_lt (α:=Value × Mat) (n:=f) (p:=fun i c=>SixV W (a.add (i * 6)) c.1∧MatV W W.heap.size c.1 c.2∧Lim c.2) X;refine ⟨_,_,_,_,_,_,.mk O P Q R l ((List.range f).map fun i=>(q i).2),rfl,MatV.shut hl ⟨some a,m,j39_,⟨by simpa using Y,V,fun e=>by cases e⟩,fun k hk=>⟨a,(q k).1,rfl,?_,?_,?_⟩⟩,.mk F G ?_ ?_⟩
    ·exact k24_
    ·simp at hk
     exact (hq k hk).1
    ·exact k26_
    ·have h1:=L ((f+(m - f)) * Tryz.prog.bytesOf 25) (by simp [DataW.weights,Tryz.underlying23])
     have hr:=reachBytes_lt;have hb:=Nat.mul_le_mul_left (f+(m - f)) Yh4;simp;omega
    ·exact k22_
end Wp
end Go.Proofs.YteiejkhdonmcdaaGreatDoor
