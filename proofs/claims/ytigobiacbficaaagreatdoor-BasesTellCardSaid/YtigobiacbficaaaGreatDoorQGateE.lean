/- What the library's listed tables give the walks; and a world that holds them. The last step of each law's row: what was there before is as it was, so the arguments read as they read. What came in as an argument reads as it did; an integer's bounds. A list of lists of integers that came in as an argument, as the walks take it. A matroid that came in as an argument, as the walks take it; how much of it there may be. -/
import Derived.Test.YtigobiacbficaaaGreatDoorCards
import Derived.Test.YtigobiacbficaaaGreatDoorTie
import Derived.Test.YtigobiacbficaaaGreatDoorZM
import Derived.WalkKit
import Derived.ProofKit
import Derived.OpenShut
import Derived.LaidMore
import Derived.LaidHandle
import Derived.LaidLaws
import Derived.RowKitTokens
import Derived.Stop.Joined
import Derived.Stop.LaidErr
import Derived.Deep.DeepHandedRow
import Derived.Deep.DeepWitnessRowRef
import Derived.Lib.LaidU8
import Derived.ChangeSame
import Derived.Carry
import Derived.ChangeSlices
import Derived.WideKeyPair
import Derived.RowKit
import Derived.Test.YtigobiacbficaaaGreatDoorZA
import Derived.Deep.Slices
import Derived.Test.YtigobiacbficaaaGreatDoorZU
import Derived.Deep.Fields
import Derived.SizedLaws
import Derived.Test.YtigobiacbficaaaGreatDoorX0A
import Derived.Test.YtigobiacbficaaaGreatDoorX0B
set_option maxHeartbeats 1000000
set_option maxRecDepth 100000
namespace Go.Proofs.YtigobiacbficaaaGreatDoor.Wp
open Go.ChangeShapes Go.WideShapes Go.ChangeAt Go.RowKit
theorem own:ownKnob Tryz.prog.godebug=none:=z40_
theorem gn64:Tryz.prog.globalNamed "math/bits.deBruijn64tab" = some 8 := z40_
theorem gt64:(Tryz.prog.globals[8]?).map (·.type)=some 198 := z40_
theorem Vn2:Tryz.prog.cellsOf 5 = 1:=z40_
open Go.ChangeShapes Go.WideShapes Go.ChangeAt Go.RowKit
section
variable {H:Type} {enc:TypeId × Value→H} {P:Program}
theorem Zp8 {f:Func} {s:ChangeSpec} {apart C D B:Bool} {W g:World} {args:Array Value} {v:Value} {h gs:List (DataW H)} {d k pv:List MemPlace}
  (o:DataW.Whole enc P f.params.toList s.vars apart W args.toList h gs d)
  (y:∀ (b:Nat) (e:Nat→Bool) (hd:Bool),DataW.TrodAll enc P g b e hd f.resultTypes.toList (v.resultList f.resultTypes.size) (s.fn H (h ++ gs)).results [])
  (q:∀ e:Nat→Bool,(∀ p∈d,e p.block=true)→DataW.TrodAll enc P g 0 e true f.params.toList args.toList (s.fn H (h ++ gs)).args k)
  (z:∀ e:Nat→Bool,(∀ p∈d,e p.block=true)→DataW.TrodVars enc P g e s.vars (s.fn H (h ++ gs)).vars pv)
  (m:d=k ++ pv) (hb:Below W.heap.size W g)
  (F:∀ (j:Nat) (t:TypeId) (r:Value),f.resultTypes[j]?=some t→(v.resultList f.resultTypes.size)[j]?=some r→Value.okWide P g .any 0 t r) :
  s.post enc P f apart C D B W args v g:=by
 have w:∀ p∈d,p.block<W.heap.size:=fun p c=>o.lt p c;have x:∀ p∈d,(fun b=>decide (b<W.heap.size)) p.block=true:=fun p c=>by simpa using w p c
 refine ⟨h,gs,d,[],k,pv,o,y _ _ _,q _ x,z _ x,World.keptBut_mono (fun p c=>⟨c,?_⟩) (hb.frame (·∈d)),fun _=>?_⟩
 ·rw [m,List.mem_append] at c
  exact Or.inr c
 ·obtain ⟨_,_,_,_,_,G,E⟩:=o
  refine ⟨F,_,_,([] ++ k) ++ pv,⟨[] ++ k,pv,trodAll_append (q _ (fun _ _=>rfl)) (y _ _ _),z _ (fun _ _=>rfl),rfl,?_,?_⟩,?_⟩
  ·intro b A c
   have u:MemPlace.cell b A∈d:=by rw [m];simpa using c
   rw [hb.frozen (w _ u)];exact G b A u
  ·intro ha
   have:=E ha;rw [m] at this;simpa using this
  ·intro p c _
   rw [m];simpa using c
end
open Go.ChangeShapes Go.WideShapes Go.ChangeAt Go.RowKit
theorem Vn3:laidOutB Tryz.prog=true:=z40_
theorem Yy6 {H:Type} {enc:TypeId × Value→H} {W c:World} {t:TypeId} {v:Value} {d:DataW H} {ps:List MemPlace} (g:Tryz.prog.readableRec t=true) (j:t<Tryz.prog.types.size)
  (h:DataW.Trod enc Tryz.prog W 0 (fun _=>true) true t v d ps) (hb:Below W.heap.size W c) (f:∀ x∈ps,x.block<W.heap.size) (e:Nat→Bool) (k:∀ x∈ps,e x.block=true) :
  DataW.Trod enc Tryz.prog c 0 e true t v d ps :=
 WideElems.Trod_stays Vn3 g j h (fun x m=>hb.same (f x m)) k
open Go.ChangeShapes Go.WideShapes Go.ChangeAt Go.RowKit
theorem Vg5:Tryz.prog.cellsOf 3 = 1:=z40_
theorem Jz9:Tryz.prog.cellsOf 28 = 1:=z40_
theorem Yf1 {H:Type} {enc:TypeId × Value→H} {W:World} {u:Value} {d:DataW H} {ps:List MemPlace} {fuel:Nat}
  (o:DataW.trod enc Tryz.prog W 0 (fun _=>true) true fuel 28 [u]=some (d,ps)) (p:∀ x∈ps,x.block<W.heap.size):∃ zs,Row W W.heap.size u zs:=by
 rcases open_ints Tryz.underlying28 Tryz.underlying3 Vg5 o with ⟨c,h⟩ | ⟨a,len,j,zs,c,_,hl,q,r,h,m,s⟩
 ·injection c with c _
  subst c;exact ⟨[],none,0,rfl,⟨Nat.le_refl _,q41_,fun _=>rfl⟩,fun k f=>absurd f k40_⟩
 ·injection c with c _
  subst c;simp only [Prod.mk.injEq] at h;obtain ⟨_,rfl⟩:=h;simp only [if_true] at r;have g:(zs.take len).length=len:=k42_;refine ⟨zs.take len,some a,j,by rw [g],⟨by rw [g];exact hl,q,fun e=>by cases e⟩,fun k f=>⟨a,rfl,?_,?_⟩⟩
  ·exact p (.cell a.block a.off) (MemPlace.mem_row.2 ⟨0,y40_,k40_⟩)
  ·rw [m k y40_]
   congr 2;rw [g] at f;simp [List.getD,f]
open Go.ChangeShapes Go.WideShapes Go.ChangeAt Go.RowKit
inductive Lim:Mat→Prop
 | mk {t n a b:Int} {l:List (List Int)} {i:List Mat} (h1:l.length≤140737488355328) (h2:∀ r∈l,r.length≤140737488355328) (h3:i.length≤140737488355328) (h4:∀ x∈i,Lim x):Lim (.mk t n a b l i)
theorem S2_ {H:Type} {P:Program} {e:TypeId} {d:DataW H}:∀ {l:List (DataW H)},d∈l→∀ n∈d.weights P e,n∈DataW.weightsAll P e l
 | x :: r,hd,n,hn=>by
  simp only [DataW.weightsAll,List.mem_append];rcases List.mem_cons.1 hd with rfl | h
  ·exact .inl hn
  ·exact .inr (S2_ h n hn)
section
variable {H:Type} {enc:TypeId × Value→H} {P:Program} {w:World} {base:Nat} {spare:Nat→Bool} {held:Bool}
theorem T9_ {t:TypeId} {d:Array Field} {fuel:Nat} {cs:List Value} {x:DataW H × List MemPlace} (hs:P.underlying t=some (.struct d)) (q:Go.Deep.oneCellFields P d=true) (hC:P.cellsOf t=d.size)
  (h:DataW.trod enc P w base spare held fuel t cs=some x) :
  ∃ (ys:List (DataW H × List MemPlace)) (n:Nat),x=(.agg (ys.map (·.1)),ys.flatMap (·.2))∧ys.length=d.size∧cs.length=d.size∧∀ (j:Nat) (f:Field) (c:Value),d[j]?=some f→cs[j]?=some c→DataW.trod enc P w base spare held n f.type [c]=ys[j]?:=by
 obtain ⟨ys,n,_,r,hl,s,k⟩:=DataW.trod_struct hs h;refine ⟨ys,n,r,s,hl.trans hC,fun j f c g hc=>?_⟩;obtain ⟨p,m⟩:=Go.Deep.hone_of q j f g;have e:=k j f g;rw [p,m] at e;rw [← e];congr 1;obtain ⟨o,rfl⟩:=List.getElem?_eq_some_iff.1 hc;rw [List.drop_eq_getElem_cons o];rfl
end
theorem Vy0:Tryz.prog.cellsOf 25 = 6:=z40_
theorem Jy0:Tryz.prog.bytesOf 3 = 8:=z40_
theorem Jy1:Tryz.prog.bytesOf 28 = 24:=z40_
theorem Vy1:1≤Tryz.prog.bytesOf 25 := q42_
theorem Vn4 {H:Type} {enc:TypeId × Value→H} {W:World} {u:Value} {d:DataW H} {ps:List MemPlace} {fuel:Nat} {zs:List Int} {B:Nat}
  (h:DataW.trod enc Tryz.prog W 0 (fun _=>true) true fuel 28 [u]=some (d,ps)) (f:Row W B u zs) (j:∀ n∈d.weights Tryz.prog 28,n≤reachBytes):zs.length≤140737488355328:=by
 obtain ⟨A,c,rfl,_⟩:=f;rcases Go.Deep.open_slice1 Tryz.underlying28 Vg5 h with ⟨e,_⟩ | ⟨a,len,o,m,n,V,D,k,e,_,_,_,_,g,_⟩
 ·simp at e
  omega
 ·simp at e
  obtain ⟨_,rfl,_⟩:=e;simp only [Prod.mk.injEq] at g;have p:=j ((zs.length+(m - zs.length)) * 8) (by rw [g.1];simp [DataW.weights,Tryz.underlying28,Jy0]);have f:=reachBytes_lt;omega
theorem Xf5 {H:Type} {enc:TypeId × Value→H} {W:World} {v:Value} {d:DataW H} {ps:List MemPlace} {fuel:Nat}
  (C:DataW.trod enc Tryz.prog W 0 (fun _=>true) true fuel 22 [v]=some (d,ps)) (w:∀ x∈ps,x.block<W.heap.size) (G:∀ n∈d.weights Tryz.prog 22,n≤reachBytes) :
  ∃ pp,Rows2 W W.heap.size v pp∧pp.length≤140737488355328∧∀ r∈pp,r.length≤140737488355328:=by
 rcases Go.Deep.open_slice1 Tryz.underlying22 Jz9 C with ⟨g,_⟩ | ⟨a,len,K,m,n,V,D,J,g,_,hl,E,y,h,u⟩
 ·simp at g
  subst g;exact ⟨[],⟨none,0,rfl,⟨Nat.le_refl _,q41_,fun _=>rfl⟩,fun k f=>absurd f k40_⟩,k40_,fun r c=>by cases c⟩
 ·simp at g
  subst g;simp only [if_true] at y;subst y;simp only [Prod.mk.injEq] at h;have B:0<m→a.block<W.heap.size:=fun L=>w (.cell a.block a.off) (by
   rw [h.2];exact List.mem_append.2 (.inl (MemPlace.mem_row.2 ⟨0,y40_,k40_⟩)))
  have s:∀ n∈DataW.weights Tryz.prog 22 (.slice ((List.range len).map D) ((List.range (m - len)).map fun j=>D (len+j))),n≤reachBytes:=by rw [← h.1];exact G
  obtain ⟨q,z⟩:=Go.Deep.choose_lt (α:=List Int) (n:=len) (p:=fun i zs=>Row W W.heap.size (V i) zs∧zs.length≤140737488355328) (fun i o=>by
   obtain ⟨_,h2⟩:=u i y40_;obtain ⟨zs,c⟩:=Yf1 h2 fun x I=>w x (by
    rw [h.2];exact List.mem_append.2 (.inr (List.mem_flatMap.2 ⟨i,List.mem_range.2 y40_,I⟩)))
   refine ⟨zs,c,Vn4 h2 c fun n F=>s n ?_⟩;simp only [DataW.weights,Tryz.underlying22];exact List.mem_cons_of_mem _ (List.mem_append.2 (.inl (S2_ (List.mem_map.2 ⟨i,List.mem_range.2 o,rfl⟩) n F))))
  refine ⟨(List.range len).map q,⟨some a,m,k40_,⟨by simpa using hl,E,fun e=>by cases e⟩,fun k f=>⟨a,V k,rfl,?_,?_,?_⟩⟩,?_,?_⟩
  ·simp at f
   exact B y40_
  ·simp at f
   exact (u k y40_).1
  ·simp at f
   have:=(z k y40_).1;simpa [List.getD,f] using this
  ·have M:=s ((len+(m - len)) * 24) (by simp [DataW.weights,Tryz.underlying22,Jy1])
   have c:=reachBytes_lt;simp;omega
  ·intro r c
   obtain ⟨i,o,rfl⟩:=List.mem_map.1 c;exact (z i (List.mem_range.1 o)).2
theorem Yf2 {H:Type} {enc:TypeId × Value→H} {W:World}:∀ (N:Nat) (d:DataW H) (fuel:Nat) (cs:List Value) (ps:List MemPlace),SizeOf.sizeOf d≤N →
  DataW.trod enc Tryz.prog W 0 (fun _=>true) true fuel 25 cs=some (d,ps)→(∀ x∈ps,x.block<W.heap.size)→(∀ n∈d.weights Tryz.prog 25,n≤reachBytes) →
  ∃ (u c1 c2 c3 c4 c5:Value) (m:Mat),cs=[u,c1,c2,c3,c4,c5]∧MatV W W.heap.size (.agg #[u,c1,c2,c3,c4,c5]) m∧Lim m:=by
 intro N
 induction N with
 | zero=>intro d fuel cs ps w;cases d<;>simp at w
 | succ N ih =>
  intro d fuel cs ps w h O hw;obtain ⟨ys,n,hx,hy,hc,o⟩:=T9_ Tryz.underlying25 z40_ z40_ h
  match ys,hy,cs,hc with
  | [y0,y1,y2,y3,y4,y5],_,[u,c1,c2,c3,c4,c5],_ =>
   have t0:=o 0 _ u rfl rfl;have t1:=o 1 _ c1 rfl rfl;have t2:=o 2 _ c2 rfl rfl;have t3:=o 3 _ c3 rfl rfl;have t4:=o 4 _ c4 rfl rfl;have t5:=o 5 _ c5 rfl rfl;simp only [Prod.mk.injEq] at hx;obtain ⟨hd,hp⟩:=hx;subst hd hp;obtain ⟨T,C,_⟩:=DataW.trod_int Tryz.underlying3 t0;obtain ⟨U,E,_⟩:=DataW.trod_int Tryz.underlying3 t1;obtain ⟨V,F,_⟩:=DataW.trod_int Tryz.underlying3 t2;obtain ⟨X,G,_⟩:=DataW.trod_int Tryz.underlying3 t3;simp at C E F G;subst C E F G;have S:∀ n∈DataW.weightsEach Tryz.prog [3, 3, 3, 3, 22, 23] [y0.1,y1.1,y2.1,y3.1,y4.1,y5.1],n≤reachBytes:=by
    intro n s;refine hw n ?_;simp only [DataW.weights,Tryz.underlying25];exact s
   obtain ⟨l,hl,L,M⟩:=Xf5 (v:=c4) (d:=y4.1) (ps:=y4.2) (fuel:=n) t4 (fun x hx=>O x q46_) (fun n s=>S n (DataW.weights_mem_each (j:=4) (t := 22) (d:=y4.1) rfl rfl n s));have R:∀ n∈y5.1.weights Tryz.prog 23,n≤reachBytes:=fun n s=>S n (DataW.weights_mem_each (j:=5) (t := 23) (d:=y5.1) rfl rfl n s);have z:∀ x∈y5.2,x.block<W.heap.size:=fun x hx=>O x q46_;obtain ⟨d5,p5⟩:=y5;rcases Go.Deep.open_slice Tryz.underlying23 t5 with ⟨r,_⟩ | ⟨a,len,xc,m,n',D,Pl,r,_,x8,x6,Q,hx,K⟩
   ·simp at r
    subst r;exact ⟨_,_,_,_,_,_,_,rfl,MatV.shut (t:=T) (n:=U) (a:=V) (b:=X) hl (MatL.nil_ _ _),.mk L M k40_ (fun x hx=>by cases hx)⟩
   ·simp at r
    subst r;simp only [if_true] at Q;subst Q;simp only [Prod.mk.injEq] at hx;obtain ⟨rfl,rfl⟩:=hx;rw [Vy0] at K z;have x5:0<m→a.block<W.heap.size:=fun h0=>z (.cell a.block a.off) (List.mem_append.2 (.inl (MemPlace.mem_row.2 ⟨0,y40_,k40_⟩)));have x7:∀ i,i<len→∃ c:Value × Mat,SixV W (a.add (i * 6)) c.1∧MatV W W.heap.size c.1 c.2∧Lim c.2:=by
     intro i y;obtain ⟨x4,J,h2⟩:=K i y40_;have P:D i∈(List.range len).map D:=List.mem_map.2 ⟨i,List.mem_range.2 y,rfl⟩;have xb:SizeOf.sizeOf (D i)≤N:=by
      have s1:=List.sizeOf_lt_of_mem P;simp at w;omega
     obtain ⟨Y,Z,z2,z3,z4,z5,mm,rfl,x9,xa⟩:=ih (D i) n' x4 (Pl i) xb h2 (fun x hx=>z x (List.mem_append.2 (.inr (List.mem_flatMap.2 ⟨i,List.mem_range.2 y40_,hx⟩)))) (fun k f=>R k (by
      simp only [DataW.weights,Tryz.underlying23];exact List.mem_cons_of_mem _ (List.mem_append.2 (.inl (S2_ P k f)))))
     obtain ⟨_,_,g⟩:=World.cells?_some J;have I:=g 0 q41_;have g1:=g 1 q41_;have g2:=g 2 q41_;have g3:=g 3 q41_;have g4:=g 4 q41_;have g5:=g 5 q41_;rw [add_zero] at I;refine ⟨(.agg #[Y,Z,z2,z3,z4,z5],mm),⟨Y,Z,z2,z3,z4,z5,rfl,by simpa using I,?_,?_,?_,?_,?_⟩,x9,xa⟩
     ·simpa [Addr.add] using g1
     ·simpa [Addr.add] using g2
     ·simpa [Addr.add] using g3
     ·simpa [Addr.add] using g4
     ·simpa [Addr.add] using g5
    obtain ⟨q,B⟩:=Go.Deep.choose_lt (α:=Value × Mat) (n:=len) (p:=fun i c=>SixV W (a.add (i * 6)) c.1∧MatV W W.heap.size c.1 c.2∧Lim c.2) x7;refine ⟨_,_,_,_,_,_,.mk T U V X l ((List.range len).map fun i=>(q i).2),rfl,MatV.shut hl ⟨some a,m,k40_,⟨by simpa using x8,x6,fun e=>by cases e⟩,fun k f=>⟨a,(q k).1,rfl,?_,?_,?_⟩⟩,.mk L M ?_ ?_⟩
    ·simp at f
     exact x5 y40_
    ·simp at f
     exact (B k f).1
    ·simp at f
     have:=(B k f).2.1;simpa [List.getD,f] using this
    ·have J:=R ((len+(m - len)) * Tryz.prog.bytesOf 25) (by simp [DataW.weights,Tryz.underlying23])
     have hr:=reachBytes_lt;have hb:=Nat.mul_le_mul_left (len+(m - len)) Vy1;simp;omega
    ·intro x hx
     obtain ⟨i,y,rfl⟩:=List.mem_map.1 hx;exact (B i (List.mem_range.1 y)).2.2
open Go.ChangeShapes Go.WideShapes Go.ChangeAt Go.RowKit
theorem et:Tryz.prog.globalNamed "errors.errorType" = some 1 := z40_
theorem gnF:Tryz.prog.globalNamed "greenwood/matroid.forms" = some 4 := z40_
theorem gtF:(Tryz.prog.globals[4]?).map (·.type)=some 154 := z40_
theorem gn0:Tryz.prog.globalNamed "greenwood/matroid.errDeep" = some 0 := z40_
theorem gn1:Tryz.prog.globalNamed "greenwood/matroid.errKind" = some 2 := z40_
theorem gn2:Tryz.prog.globalNamed "greenwood/matroid.errMany" = some 3 := z40_
theorem gn3:Tryz.prog.globalNamed "greenwood/matroid.errForm" = some 5 := z40_
theorem gn4:Tryz.prog.globalNamed "greenwood/matroid.errFit" = some 6 := z40_
theorem gt0:(Tryz.prog.globals[0]?).map (·.type)=some 94 := z40_
theorem gt1:(Tryz.prog.globals[2]?).map (·.type)=some 94 := z40_
theorem gt2:(Tryz.prog.globals[3]?).map (·.type)=some 94 := z40_
theorem gt3:(Tryz.prog.globals[5]?).map (·.type)=some 94 := z40_
theorem gt4:(Tryz.prog.globals[6]?).map (·.type)=some 94 := z40_
theorem rtT:(Tryz.prog.cutTypes.find? (·.1 == "internal/reflectlite.rtype")).map (·.2)=some 165 := z40_
theorem Jy2:Tryz.prog.types.size=232:=z40_
theorem Jy3:((List.range 232).filter fun t=>Tryz.prog.rowNamed t [101,114,114,111,114])=[94]:=z40_
theorem Yy7:Tryz.prog.cellsOf 220 = 1:=z40_
theorem Yy8:Tryz.prog.cellsOf 9 = 1:=z40_
theorem Xf6:Tryz.prog.cellsOf 153 = 5:=z40_
theorem star : "*" ++ "errors.errorString" = "*errors.errorString" := q41_
theorem rowX (u:TypeId) (h:Tryz.prog.typeName? 3 u=some "*errors.errorString"):u = 199 :=
 typeName_ptr_named (nm := "errors.errorString") (by rw [star];kernel_rfl) z40_ q41_ u (by rw [star];exact h)
def laidQ:List (String × DataW Unit):=[("math/bits.deBruijn32tab",Rows.laid_math_bits_deBruijn32tab),("math/bits.deBruijn64tab",Rows.laid_math_bits_deBruijn64tab),("errors.errorType",Rows.laid_errors_errorType),("greenwood/matroid.forms",Rows.laid_greenwood_matroid_forms),("greenwood/matroid.errDeep",Rows.laid_greenwood_matroid_errDeep),("greenwood/matroid.errKind",Rows.laid_greenwood_matroid_errKind),("greenwood/matroid.errMany",Rows.laid_greenwood_matroid_errMany),("greenwood/matroid.errForm",Rows.laid_greenwood_matroid_errForm),("greenwood/matroid.errFit",Rows.laid_greenwood_matroid_errFit)]
def laidR:List (String × DataW Unit):=[("math/bits.deBruijn32tab",Rows.laid_math_bits_deBruijn32tab),("math/bits.deBruijn64tab",Rows.laid_math_bits_deBruijn64tab),("greenwood/matroid.forms",Rows.laid_greenwood_matroid_forms),("greenwood/matroid.errDeep",Rows.laid_greenwood_matroid_errDeep),("greenwood/matroid.errKind",Rows.laid_greenwood_matroid_errKind),("greenwood/matroid.errMany",Rows.laid_greenwood_matroid_errMany),("greenwood/matroid.errForm",Rows.laid_greenwood_matroid_errForm),("greenwood/matroid.errFit",Rows.laid_greenwood_matroid_errFit)]
theorem Xz8 {W:World} (h:laidMetH Tryz.prog laidQ W):laidMet Tryz.prog laidR W∧handlesMet Tryz.prog [("errors.errorType",Rows.laid_errors_errorType)] W:=h
theorem Zi7 {W:World} (h:handlesMet Tryz.prog [("errors.errorType",Rows.laid_errors_errorType)] W):W.cell? ⟨1,0,none⟩=some (.iface 165 (.agg #[.pointer (some ⟨9, 94,none⟩)])):=by
 obtain ⟨p,u,q,e,f,j,k,c⟩:=h _ (List.mem_singleton.2 rfl);have m:p=[101,114,114,111,114]:=(Option.some.inj e).symm;subst m;obtain rfl:=Option.some.inj (rtT.symm.trans f);have d:q∈(List.range 232).filter fun t=>Tryz.prog.rowNamed t [101,114,114,111,114]:=List.mem_filter.2 ⟨List.mem_range.2 (by rw [← Jy2];exact j),k⟩;rw [Jy3] at d;obtain rfl:=List.mem_singleton.1 d;have o:typeHandle Tryz.prog 94 = .pointer (some ⟨9, 94,none⟩):=z40_;rw [o] at c;simpa using World.var?_cell et c 0
theorem Yf3 {W:World} (k:laidMet Tryz.prog laidR W):Met W:=by
 obtain ⟨g,t,cs,fuel,p,s,u,v,hd⟩:=Lib.laidMet.reads k (n := "math/bits.deBruijn64tab") (d:=Rows.laid_math_bits_deBruijn64tab) (by unfold laidR;simp);obtain rfl:=Option.some.inj (gn64.symm.trans s);obtain rfl:=Option.some.inj (gt64.symm.trans u);have o:DataW.trod (fun _=>()) Tryz.prog W 0 (fun _=>true) false fuel 198 cs.toList=some (.agg (Lib.deBruijn64tab.map fun z:Nat=>DataW.lit (.int .u8 (z:Int))),p):=hd;have j:∀ i,i<64→W.cell? ⟨8,i,none⟩=some (.int .u8 (Lib.deBruijn64tab.getD i 0:Nat)):=by
  intro i f;obtain ⟨f',d,q,c,h2⟩:=Lib.array_elem Tryz.underlying198 o i f;rw [Vn2,Nat.mul_one] at h2;obtain ⟨z,w,r,_⟩:=DataW.trod_int Tryz.underlying5 h2;obtain rfl:d=.lit (.int .u8 z):=congrArg Prod.fst r;have h3:cs.toList[i]?=some (.int .u8 z):=by
   have:=congrArg (·[0]?) w;simpa [List.getElem?_take,List.getElem?_drop] using this
  have e:i<Lib.deBruijn64tab.length:=f;rw [List.getElem?_map,List.getElem?_eq_getElem e] at c;simp only [Option.map_some,Option.some.injEq,DataW.lit.injEq,Lit.int.injEq,true_and] at c;have m:=World.var?_cell gn64 v i;rw [m,← Array.getElem?_toList,h3,← c];simp [List.getD,e]
 refine ⟨?_,j⟩;rcases Nat.lt_or_ge 8 W.heap.size with h | h
 ·exact h
 ·have:=j 0 q41_
  simp [World.cell?,Array.getElem?_eq_none h] at this
def formD (f:Form):DataW Unit:=.agg [.lit (.bool f.fa),.lit (.bool f.fb),.lit (.int .i64 f.lists),.lit (.int .i64 f.least),.lit (.int .i64 f.most)]
theorem Xf7:Rows.laid_greenwood_matroid_forms=.agg ((List.range 10).map fun t:Nat=>formD (form (t:Int))):=by rfl
theorem Zp9 {W:World} (B:laidMet Tryz.prog laidR W) (t:Nat) (h:t<10) :
  W.cell? ⟨4,t * 5,none⟩=some (.bool (form t).fa)∧W.cell? ⟨4,t * 5+1,none⟩=some (.bool (form t).fb)∧W.cell? ⟨4,t * 5+2,none⟩=some (.int .i64 (form t).lists) ∧
   W.cell? ⟨4,t * 5+3,none⟩=some (.int .i64 (form t).least)∧W.cell? ⟨4,t * 5+4,none⟩=some (.int .i64 (form t).most):=by
 obtain ⟨g,T,cs,fuel,p,C,E,F,hd⟩:=Lib.laidMet.reads B (n := "greenwood/matroid.forms") (d:=Rows.laid_greenwood_matroid_forms) (by unfold laidR;simp);obtain rfl:=Option.some.inj (gnF.symm.trans C);obtain rfl:=Option.some.inj (gtF.symm.trans E);rw [Xf7] at hd;obtain ⟨f',d,q,y,h2⟩:=Lib.array_elem Tryz.underlying154 hd t h;rw [Xf6] at h2;rw [List.getElem?_map,List.getElem?_range h] at y;obtain rfl:=Option.some.inj y;obtain ⟨ys,n,z,G,hc,e⟩:=T9_ Tryz.underlying153 z40_ z40_ h2;have c:∀ j,j<5→((cs.toList.drop (t * 5)).take 5)[j]?=W.cell? ⟨4,t * 5+j,none⟩:=by
  intro j D;rw [World.var?_cell gnF F,← Array.getElem?_toList,List.getElem?_take,if_pos D,List.getElem?_drop]
 generalize (cs.toList.drop (t * 5)).take 5=l at *
 match ys,G,l,hc with
 | [y0,y1,y2,y3,y4],_,[c0,c1,c2,c3,c4],_ =>
  have M:=e 0 _ c0 rfl rfl;have N:=e 1 _ c1 rfl rfl;have O:=e 2 _ c2 rfl rfl;have P:=e 3 _ c3 rfl rfl;have Q:=e 4 _ c4 rfl rfl;have q0:=c 0 q41_;have q1:=c 1 q41_;have q2:=c 2 q41_;have q3:=c 3 q41_;have q4:=c 4 q41_;obtain ⟨R,s,H⟩:=DataW.trod_bool Tryz.underlying4 M;obtain ⟨S,u,I⟩:=DataW.trod_bool Tryz.underlying4 N;obtain ⟨U,v,J,_⟩:=DataW.trod_int Tryz.underlying3 O;obtain ⟨V,w,K,_⟩:=DataW.trod_int Tryz.underlying3 P;obtain ⟨X,x,L,_⟩:=DataW.trod_int Tryz.underlying3 Q;simp only [Prod.mk.injEq,List.map_cons,List.map_nil,formD,DataW.agg.injEq,List.cons.injEq,and_true] at z;obtain ⟨⟨f,k,m,o,r⟩,_⟩:=z;subst H I J K L;simp at s u v w x;simp only [DataW.lit.injEq,Lit.bool.injEq,Lit.int.injEq,true_and] at f k m o r;subst s u v w x;rw [f,k,m,o,r];exact ⟨q0.symm,q1.symm,q2.symm,q3.symm,q4.symm⟩
theorem Yf4 {W:World} (T:laidMetH Tryz.prog laidQ W):∃ E,Env E W:=by
 obtain ⟨p,S⟩:=Xz8 T;have U:=Zi7 S;have hM:=Yf3 p;have hF:=Zp9 p;obtain ⟨ps,⟨gA,tA,xy,fA,pA,qA,x9,xj,xm,x1,⟨gB,tB,xz,fB,pB,qB,xa,xk,xn,x2,⟨gC,tC,y0,fC,pC,qC,xb,xl,xo,x3,⟨g0,t0,F,f0,p0,q0,x4,xe,q,V,⟨g1,t1,G,f1,p1,q1,x5,xf,r,X,⟨g2,t2,H,f2,p2,q2,x6,xg,s,Y,⟨g3,t3,I,f3,p3,q3,x7,xh,w,Z,⟨g4,t4,J,f4,p4,q4,x8,xi,x,x0,xc,O⟩,N⟩,M⟩,L⟩,K⟩,R⟩,Q⟩,P⟩,hnd,c⟩:=p;obtain rfl:=Option.some.inj (gn0.symm.trans x4);obtain rfl:=Option.some.inj (gn1.symm.trans x5);obtain rfl:=Option.some.inj (gn2.symm.trans x6);obtain rfl:=Option.some.inj (gn3.symm.trans x7);obtain rfl:=Option.some.inj (gn4.symm.trans x8);obtain rfl:=Option.some.inj (gt0.symm.trans xe);obtain rfl:=Option.some.inj (gt1.symm.trans xf);obtain rfl:=Option.some.inj (gt2.symm.trans xg);obtain rfl:=Option.some.inj (gt3.symm.trans xh);obtain rfl:=Option.some.inj (gt4.symm.trans xi);have xd:q4=[]:=xc;subst xd O N M L K R Q P;clear xm xn xo x1 x2 x3 x9 xa xb xj xk xl;obtain ⟨l0⟩:=F;obtain ⟨l1⟩:=G;obtain ⟨l2⟩:=H;obtain ⟨l3⟩:=I;obtain ⟨l4⟩:=J;have xt:∀ u v,l0=[.iface u v]→Value.okWide Tryz.prog W .any 0 u v:=fun u v e=>by
  subst e;exact (c 0 0 q44_).2 u v (by simpa using World.var?_cell gn0 q 0)
 have xu:∀ u v,l1=[.iface u v]→Value.okWide Tryz.prog W .any 0 u v:=fun u v e=>by
  subst e;exact (c 2 0 q44_).2 u v (by simpa using World.var?_cell gn1 r 0)
 have xv:∀ u v,l2=[.iface u v]→Value.okWide Tryz.prog W .any 0 u v:=fun u v e=>by
  subst e;exact (c 3 0 q44_).2 u v (by simpa using World.var?_cell gn2 s 0)
 have xw:∀ u v,l3=[.iface u v]→Value.okWide Tryz.prog W .any 0 u v:=fun u v e=>by
  subst e;exact (c 5 0 q44_).2 u v (by simpa using World.var?_cell gn3 w 0)
 have xx:∀ u v,l4=[.iface u v]→Value.okWide Tryz.prog W .any 0 u v:=fun u v e=>by
  subst e;exact (c 6 0 q44_).2 u v (by simpa using World.var?_cell gn4 x 0)
 obtain ⟨f,s0,rfl,y1,_,_,rfl⟩:=errorString_of_trod Tryz.underlying94 rowX Tryz.underlying199 Tryz.underlying220 rfl rfl Tryz.underlying9 Yy7 Yy8 V xt;obtain ⟨h,s1,rfl,y2,_,_,rfl⟩:=errorString_of_trod Tryz.underlying94 rowX Tryz.underlying199 Tryz.underlying220 rfl rfl Tryz.underlying9 Yy7 Yy8 X xu;obtain ⟨j,s2,rfl,y3,_,_,rfl⟩:=errorString_of_trod Tryz.underlying94 rowX Tryz.underlying199 Tryz.underlying220 rfl rfl Tryz.underlying9 Yy7 Yy8 Y xv;obtain ⟨m,s3,rfl,y4,_,_,rfl⟩:=errorString_of_trod Tryz.underlying94 rowX Tryz.underlying199 Tryz.underlying220 rfl rfl Tryz.underlying9 Yy7 Yy8 Z xw;obtain ⟨o,s4,rfl,y5,_,_,rfl⟩:=errorString_of_trod Tryz.underlying94 rowX Tryz.underlying199 Tryz.underlying220 rfl rfl Tryz.underlying9 Yy7 Yy8 x0 xx;have y:=(c f.block f.off q44_).1;have z:=(c h.block h.off q44_).1;have B:=(c j.block j.off q44_).1;have C:=(c m.block m.off q44_).1;have D:=(c o.block o.off q44_).1;have hnd:=(List.nodup_append.1 (List.nodup_append.1 (List.nodup_append.1 hnd).2.1).2.1).2.1;have xp:h≠f:=k47_;have xq:j≠f:=k47_;have xr:m≠f:=k47_;have xs:o≠f:=k47_;refine ⟨fun k=>if k=0 then f else if k=1 then h else if k=2 then j else if k=3 then m else o,?_⟩;exact {
  tab:=hM
  gt:=U
  g0:=by simpa [eS] using World.var?_cell gn0 q 0
  g1:=by simpa [eS] using World.var?_cell gn1 r 0
  g2:=by simpa [eS] using World.var?_cell gn2 s 0
  g3:=by simpa [eS] using World.var?_cell gn3 w 0
  g4:=by simpa [eS] using World.var?_cell gn4 x 0
  f0:=fun t d=>(hF t d).1
  f1:=fun t d=>(hF t d).2.1
  f2:=fun t d=>(hF t d).2.2.1
  f3:=fun t d=>(hF t d).2.2.2.1
  f4:=fun t d=>(hF t d).2.2.2.2
  nine:=hM.lt
  blk:=by
   intro k hk;rcases (by omega:k=0∨k=1∨k=2∨k=3∨k=4) with rfl | rfl | rfl | rfl | rfl
   ·exact y
   ·exact z
   ·exact B
   ·exact C
   ·exact D
  ne:=by
   intro k h1 h4;rcases (by omega:k=1∨k=2∨k=3∨k=4) with rfl | rfl | rfl | rfl
   ·exact xp
   ·exact xq
   ·exact xr
   ·exact xs }
theorem Xz9 {H:Type} {enc:TypeId × Value→H} {W:World} {v:Value} {d:DataW H} {ps:List MemPlace} {base:Nat} (s:Value.okWide Tryz.prog W .any base 25 v)
  (h:DataW.Trod enc Tryz.prog W 0 (fun _=>true) true 25 v d ps) (k:∀ x∈ps,x.block<W.heap.size) {ts:List TypeId} {c:List (DataW H)} (q:(DataW.weightsEach Tryz.prog ts c).all (·≤reachBytes)=true) {j:Nat} (r:ts[j]?=some 25) (hd:c[j]?=some d) :
  ∃ m,MatV W W.heap.size v m∧Lim m:=by
 obtain ⟨cs,rfl,_⟩:=okWide_struct Tryz.underlying25 s;obtain ⟨fuel,g⟩:=h;obtain ⟨e,c1,c2,c3,c4,c5,m,hc,o,hl⟩:=Yf2 _ d fuel _ ps (Nat.le_refl _) g k (fun n p=>by
  have:=List.all_eq_true.1 q n (DataW.weights_mem_each r hd n p);simpa using this)
 obtain ⟨cl⟩:=cs;have f:cl=[e,c1,c2,c3,c4,c5]:=hc;subst f;exact ⟨m,o,hl⟩
theorem Vy2 (os:Os) (args:Array Value):laidMetH Tryz.prog laidQ ((World.doorLaid Tryz.prog 400 os).forCall (fun _ _=>0) ⟨#[],args,[]⟩).memory :=
 laidMetH_of_parts (laidMet_of_run' 8 z40_ z40_) z40_
end Go.Proofs.YtigobiacbficaaaGreatDoor.Wp
