/- What the nine listed package-level variables give the walks; and a world that holds them. -/
import Derived.Test.YteiejkhdonmcdaaGreatDoorZG
import Derived.Test.YteiejkhdonmcdaaGreatDoorX0A
import Derived.Test.YteiejkhdonmcdaaGreatDoorX0B
set_option maxHeartbeats 1000000
set_option maxRecDepth 100000
namespace Go.Proofs.YteiejkhdonmcdaaGreatDoor
open Go.ChangeShapes Go.WideShapes Go.ChangeAt Go.RowKit
namespace Wp
theorem et:Tryz.prog.globalNamed "errors.errorType" = some 1 := q36_
theorem gnF:Tryz.prog.globalNamed "greenwood/matroid.forms" = some 4 := q36_
theorem gtF:(Tryz.prog.globals[4]?).map (·.type)=some 156 := q36_
theorem gn0:Tryz.prog.globalNamed "greenwood/matroid.errDeep" = some 0 := q36_
theorem gn1:Tryz.prog.globalNamed "greenwood/matroid.errKind" = some 2 := q36_
theorem gn2:Tryz.prog.globalNamed "greenwood/matroid.errMany" = some 3 := q36_
theorem gn3:Tryz.prog.globalNamed "greenwood/matroid.errForm" = some 5 := q36_
theorem gn4:Tryz.prog.globalNamed "greenwood/matroid.errFit" = some 6 := q36_
theorem gt0:(Tryz.prog.globals[0]?).map (·.type)=some 94 := q36_
theorem gt1:(Tryz.prog.globals[2]?).map (·.type)=some 94 := q36_
theorem gt2:(Tryz.prog.globals[3]?).map (·.type)=some 94 := q36_
theorem gt3:(Tryz.prog.globals[5]?).map (·.type)=some 94 := q36_
theorem gt4:(Tryz.prog.globals[6]?).map (·.type)=some 94 := q36_
theorem rtT:(Tryz.prog.cutTypes.find? (·.1 == "internal/reflectlite.rtype")).map (·.2)=some 178 := q36_
theorem Vi3:Tryz.prog.types.size=233:=q36_
theorem Vi4:((List.range 233).filter fun t=>Tryz.prog.rowNamed t [101,114,114,111,114])=[94]:=q36_
theorem Zr3:Tryz.prog.cellsOf 221 = 1:=q36_
theorem Zr4:Tryz.prog.cellsOf 9 = 1:=q36_
theorem Xy1:Tryz.prog.cellsOf 155 = 5:=q36_
theorem star : "*" ++ "errors.errorString" = "*errors.errorString" := k36_
theorem rowX (u:TypeId) (h:Tryz.prog.typeName? 3 u=some "*errors.errorString"):u = 200 :=
 typeName_ptr_named (nm := "errors.errorString") (by rw [star];kernel_rfl) q36_ k36_ u (by rw [star];exact h)
def laidQ:List (String × DataW Unit):=[("math/bits.deBruijn32tab",Rows.laid_math_bits_deBruijn32tab),("math/bits.deBruijn64tab",Rows.laid_math_bits_deBruijn64tab),("errors.errorType",Rows.laid_errors_errorType),("greenwood/matroid.forms",Rows.laid_greenwood_matroid_forms),("greenwood/matroid.errDeep",Rows.laid_greenwood_matroid_errDeep),("greenwood/matroid.errKind",Rows.laid_greenwood_matroid_errKind),("greenwood/matroid.errMany",Rows.laid_greenwood_matroid_errMany),("greenwood/matroid.errForm",Rows.laid_greenwood_matroid_errForm),("greenwood/matroid.errFit",Rows.laid_greenwood_matroid_errFit)]
def laidR:List (String × DataW Unit):=[("math/bits.deBruijn32tab",Rows.laid_math_bits_deBruijn32tab),("math/bits.deBruijn64tab",Rows.laid_math_bits_deBruijn64tab),("greenwood/matroid.forms",Rows.laid_greenwood_matroid_forms),("greenwood/matroid.errDeep",Rows.laid_greenwood_matroid_errDeep),("greenwood/matroid.errKind",Rows.laid_greenwood_matroid_errKind),("greenwood/matroid.errMany",Rows.laid_greenwood_matroid_errMany),("greenwood/matroid.errForm",Rows.laid_greenwood_matroid_errForm),("greenwood/matroid.errFit",Rows.laid_greenwood_matroid_errFit)]
theorem Ym0 {W:World} (h:laidMetH Tryz.prog laidQ W):laidMet Tryz.prog laidR W∧handlesMet Tryz.prog [("errors.errorType",Rows.laid_errors_errorType)] W:=h
theorem Zf8 {W:World} (h:handlesMet Tryz.prog [("errors.errorType",Rows.laid_errors_errorType)] W):W.cell? ⟨1,0,none⟩=some (.iface 178 (.agg #[.pointer (some ⟨9, 94,none⟩)])):=by
 obtain ⟨p,u,q,e,f,j,k,c⟩:=h _ (List.mem_singleton.2 rfl);have m:p=[101,114,114,111,114]:=(Option.some.inj e).symm;subst m;obtain rfl:=Option.some.inj (rtT.symm.trans f);have d:q∈(List.range 233).filter fun t=>Tryz.prog.rowNamed t [101,114,114,111,114]:=List.mem_filter.2 ⟨List.mem_range.2 (by rw [← Vi3];exact j),k⟩;rw [Vi4] at d;obtain rfl:=List.mem_singleton.1 d;have o:typeHandle Tryz.prog 94 = .pointer (some ⟨9, 94,none⟩):=q36_;rw [o] at c;simpa using World.var?_cell et c 0
theorem Yv5 {W:World} (m:laidMet Tryz.prog laidR W):Met W:=by
 obtain ⟨g,t,cs,fuel,p,u,v,w,hd⟩:=Lib.laidMet.reads m (n := "math/bits.deBruijn64tab") (d:=Rows.laid_math_bits_deBruijn64tab) (by unfold laidR;simp);obtain rfl:=Option.some.inj (gn64.symm.trans u);obtain rfl:=Option.some.inj (gt64.symm.trans v);have r:DataW.trod (fun _=>()) Tryz.prog W 0 (fun _=>true) false fuel 199 cs.toList=some (.agg (Lib.deBruijn64tab.map fun z:Nat=>DataW.lit (.int .u8 (z:Int))),p):=hd;have k:∀ i,i<64→W.cell? ⟨8,i,none⟩=some (.int .u8 (Lib.deBruijn64tab.getD i 0:Nat)):=by
  intro i j;obtain ⟨f',d,q,c,e⟩:=Lib.array_elem Tryz.underlying199 r i j;rw [Vj8,Nat.mul_one] at e;obtain ⟨z,x,s,_⟩:=DataW.trod_int Tryz.underlying5 e;obtain rfl:d=.lit (.int .u8 z):=congrArg Prod.fst s;have h3:cs.toList[i]?=some (.int .u8 z):=by
   have:=congrArg (·[0]?) x;simpa [List.getElem?_take,List.getElem?_drop] using this
  have f:i<Lib.deBruijn64tab.length:=j;rw [List.getElem?_map,List.getElem?_eq_getElem f] at c;simp only [Option.map_some,Option.some.injEq,DataW.lit.injEq,Lit.int.injEq,true_and] at c;have o:=World.var?_cell gn64 w i;rw [o,← Array.getElem?_toList,h3,← c];simp [List.getD,f]
 refine ⟨?_,k⟩;rcases Nat.lt_or_ge 8 W.heap.size with h | h
 ·exact h
 ·have:=k 0 k36_
  simp [World.cell?,Array.getElem?_eq_none h] at this
def formD (f:Form):DataW Unit:=.agg [.lit (.bool f.fa),.lit (.bool f.fb),.lit (.int .i64 f.lists),.lit (.int .i64 f.least),.lit (.int .i64 f.most)]
theorem Xy2:Rows.laid_greenwood_matroid_forms=.agg ((List.range 10).map fun t:Nat=>formD (form (t:Int))):=y38_
theorem Zl8 {W:World} (C:laidMet Tryz.prog laidR W) (t:Nat) (h:t<10) :
  W.cell? ⟨4,t * 5,none⟩=some (.bool (form t).fa)∧W.cell? ⟨4,t * 5+1,none⟩=some (.bool (form t).fb)∧W.cell? ⟨4,t * 5+2,none⟩=some (.int .i64 (form t).lists) ∧
   W.cell? ⟨4,t * 5+3,none⟩=some (.int .i64 (form t).least)∧W.cell? ⟨4,t * 5+4,none⟩=some (.int .i64 (form t).most):=by
 obtain ⟨g,U,cs,fuel,p,D,F,G,hd⟩:=Lib.laidMet.reads C (n := "greenwood/matroid.forms") (d:=Rows.laid_greenwood_matroid_forms) (by unfold laidR;simp);obtain rfl:=Option.some.inj (gnF.symm.trans D);obtain rfl:=Option.some.inj (gtF.symm.trans F);rw [Xy2] at hd;obtain ⟨f',d,q,y,z⟩:=Lib.array_elem Tryz.underlying156 hd t h;rw [Xy1] at z;rw [List.getElem?_map,List.getElem?_range h] at y;obtain rfl:=Option.some.inj y;obtain ⟨ys,n,B,H,hc,e⟩:=T3_ Tryz.underlying155 q36_ q36_ z;have c:∀ j,j<5→((cs.toList.drop (t * 5)).take 5)[j]?=W.cell? ⟨4,t * 5+j,none⟩:=by
  intro j E;rw [World.var?_cell gnF G,← Array.getElem?_toList,List.getElem?_take,if_pos E,List.getElem?_drop]
 generalize (cs.toList.drop (t * 5)).take 5=l at *
 match ys,H,l,hc with
 | [y0,y1,y2,y3,y4],_,[c0,c1,c2,c3,c4],_ =>
  have N:=e 0 _ c0 rfl rfl;have O:=e 1 _ c1 rfl rfl;have P:=e 2 _ c2 rfl rfl;have Q:=e 3 _ c3 rfl rfl;have R:=e 4 _ c4 rfl rfl;have q0:=c 0 k36_;have q1:=c 1 k36_;have q2:=c 2 k36_;have q3:=c 3 k36_;have q4:=c 4 k36_;obtain ⟨S,s,I⟩:=DataW.trod_bool Tryz.underlying4 N;obtain ⟨T,u,J⟩:=DataW.trod_bool Tryz.underlying4 O;obtain ⟨V,v,K,_⟩:=DataW.trod_int Tryz.underlying3 P;obtain ⟨X,w,L,_⟩:=DataW.trod_int Tryz.underlying3 Q;obtain ⟨Y,x,M,_⟩:=DataW.trod_int Tryz.underlying3 R;simp only [Prod.mk.injEq,List.map_cons,List.map_nil,formD,DataW.agg.injEq,List.cons.injEq,and_true] at B;obtain ⟨⟨f,k,m,o,r⟩,_⟩:=B;subst I J K L M;simp at s u v w x;simp only [DataW.lit.injEq,Lit.bool.injEq,Lit.int.injEq,true_and] at f k m o r;subst s u v w x;rw [f,k,m,o,r];exact ⟨q0.symm,q1.symm,q2.symm,q3.symm,q4.symm⟩
theorem Za3 {W:World} (hL:laidMetH Tryz.prog laidQ W):∃ E,Env E W:=by
 obtain ⟨p,T⟩:=Ym0 hL;have U:=Zf8 T;have q:=Yv5 p;have hF:=Zl8 p;obtain ⟨ps,⟨gA,tA,xy,fA,pA,qA,x9,xj,xm,x1,⟨gB,tB,xz,fB,pB,qB,xa,xk,xn,x2,⟨gC,tC,y0,fC,pC,qC,xb,xl,xo,x3,⟨g0,t0,G,f0,p0,q0,x4,xe,r,V,⟨g1,t1,H,f1,p1,q1,x5,xf,s,X,⟨g2,t2,I,f2,p2,q2,x6,xg,w,Y,⟨g3,t3,J,f3,p3,q3,x7,xh,x,Z,⟨g4,t4,K,f4,p4,q4,x8,xi,y,x0,xc,P⟩,O⟩,N⟩,M⟩,L⟩,S⟩,R⟩,Q⟩,hnd,c⟩:=p;obtain rfl:=Option.some.inj (gn0.symm.trans x4);obtain rfl:=Option.some.inj (gn1.symm.trans x5);obtain rfl:=Option.some.inj (gn2.symm.trans x6);obtain rfl:=Option.some.inj (gn3.symm.trans x7);obtain rfl:=Option.some.inj (gn4.symm.trans x8);obtain rfl:=Option.some.inj (gt0.symm.trans xe);obtain rfl:=Option.some.inj (gt1.symm.trans xf);obtain rfl:=Option.some.inj (gt2.symm.trans xg);obtain rfl:=Option.some.inj (gt3.symm.trans xh);obtain rfl:=Option.some.inj (gt4.symm.trans xi);have xd:q4=[]:=xc;subst xd P O N M L S R Q;clear xm xn xo x1 x2 x3 x9 xa xb xj xk xl;obtain ⟨l0⟩:=G;obtain ⟨l1⟩:=H;obtain ⟨l2⟩:=I;obtain ⟨l3⟩:=J;obtain ⟨l4⟩:=K;have xt:∀ u v,l0=[.iface u v]→Value.okWide Tryz.prog W .any 0 u v:=fun u v e=>by
  subst e;exact (c 0 0 j39_).2 u v (by simpa using World.var?_cell gn0 r 0)
 have xu:∀ u v,l1=[.iface u v]→Value.okWide Tryz.prog W .any 0 u v:=fun u v e=>by
  subst e;exact (c 2 0 j39_).2 u v (by simpa using World.var?_cell gn1 s 0)
 have xv:∀ u v,l2=[.iface u v]→Value.okWide Tryz.prog W .any 0 u v:=fun u v e=>by
  subst e;exact (c 3 0 j39_).2 u v (by simpa using World.var?_cell gn2 w 0)
 have xw:∀ u v,l3=[.iface u v]→Value.okWide Tryz.prog W .any 0 u v:=fun u v e=>by
  subst e;exact (c 5 0 j39_).2 u v (by simpa using World.var?_cell gn3 x 0)
 have xx:∀ u v,l4=[.iface u v]→Value.okWide Tryz.prog W .any 0 u v:=fun u v e=>by
  subst e;exact (c 6 0 j39_).2 u v (by simpa using World.var?_cell gn4 y 0)
 obtain ⟨f,s0,rfl,y1,_,_,rfl⟩:=errorString_of_trod Tryz.underlying94 rowX Tryz.underlying200 Tryz.underlying221 rfl rfl Tryz.underlying9 Zr3 Zr4 V xt;obtain ⟨h,s1,rfl,y2,_,_,rfl⟩:=errorString_of_trod Tryz.underlying94 rowX Tryz.underlying200 Tryz.underlying221 rfl rfl Tryz.underlying9 Zr3 Zr4 X xu;obtain ⟨j,s2,rfl,y3,_,_,rfl⟩:=errorString_of_trod Tryz.underlying94 rowX Tryz.underlying200 Tryz.underlying221 rfl rfl Tryz.underlying9 Zr3 Zr4 Y xv;obtain ⟨m,s3,rfl,y4,_,_,rfl⟩:=errorString_of_trod Tryz.underlying94 rowX Tryz.underlying200 Tryz.underlying221 rfl rfl Tryz.underlying9 Zr3 Zr4 Z xw;obtain ⟨o,s4,rfl,y5,_,_,rfl⟩:=errorString_of_trod Tryz.underlying94 rowX Tryz.underlying200 Tryz.underlying221 rfl rfl Tryz.underlying9 Zr3 Zr4 x0 xx;have z:=(c f.block f.off j39_).1;have B:=(c h.block h.off j39_).1;have C:=(c j.block j.off j39_).1;have D:=(c m.block m.off j39_).1;have F:=(c o.block o.off j39_).1;have hnd:=(List.nodup_append.1 (List.nodup_append.1 (List.nodup_append.1 hnd).2.1).2.1).2.1;have xp:h≠f:=y42_;have xq:j≠f:=y42_;have xr:m≠f:=y42_;have xs:o≠f:=y42_;refine ⟨fun k=>if k=0 then f else if k=1 then h else if k=2 then j else if k=3 then m else o,?_⟩;exact {
  tab:=q
  gt:=U
  g0:=by simpa [eS] using World.var?_cell gn0 r 0
  g1:=by simpa [eS] using World.var?_cell gn1 s 0
  g2:=by simpa [eS] using World.var?_cell gn2 w 0
  g3:=by simpa [eS] using World.var?_cell gn3 x 0
  g4:=by simpa [eS] using World.var?_cell gn4 y 0
  f0:=fun t d=>(hF t d).1
  f1:=fun t d=>(hF t d).2.1
  f2:=fun t d=>(hF t d).2.2.1
  f3:=fun t d=>(hF t d).2.2.2.1
  f4:=fun t d=>(hF t d).2.2.2.2
  nine:=q.lt
  blk:=by
   intro k hk;rcases (by omega:k=0∨k=1∨k=2∨k=3∨k=4) with rfl | rfl | rfl | rfl | rfl
   ·exact z
   ·exact B
   ·exact C
   ·exact D
   ·exact F
  ne:=by
   intro k h1 h4;rcases (by omega:k=1∨k=2∨k=3∨k=4) with rfl | rfl | rfl | rfl
   ·exact xp
   ·exact xq
   ·exact xr
   ·exact xs }
theorem O9_ {H:Type} {enc:TypeId × Value→H} {W:World} {v:Value} {d:DataW H} {ps:List MemPlace} {base:Nat} (s:Value.okWide Tryz.prog W .any base 25 v)
  (h:DataW.Trod enc Tryz.prog W 0 (fun _=>true) true 25 v d ps) (k:∀ x∈ps,x.block<W.heap.size) {ts:List TypeId} {c:List (DataW H)} (q:(DataW.weightsEach Tryz.prog ts c).all (·≤reachBytes)=true) {j:Nat} (r:ts[j]?=some 25) (hd:c[j]?=some d) :
  ∃ m,MatV W W.heap.size v m∧Lim m:=by
 obtain ⟨cs,rfl,_⟩:=okWide_struct Tryz.underlying25 s;obtain ⟨fuel,g⟩:=h;obtain ⟨e,c1,c2,c3,c4,c5,m,hc,o,hl⟩:=Yv4 _ d fuel _ ps (Nat.le_refl _) g k (fun n p=>by
  have:=List.all_eq_true.1 q n (DataW.weights_mem_each r hd n p);simpa using this)
 obtain ⟨cl⟩:=cs;have f:cl=[e,c1,c2,c3,c4,c5]:=hc;subst f;exact ⟨m,o,hl⟩
theorem Yf3 (os:Os) (args:Array Value):laidMetH Tryz.prog laidQ ((World.doorLaid Tryz.prog 400 os).forCall (fun _ _=>0) ⟨#[],args,[]⟩).memory :=
 laidMetH_of_parts (laidMet_of_run' 8 q36_ q36_) q36_
end Wp
end Go.Proofs.YteiejkhdonmcdaaGreatDoor
