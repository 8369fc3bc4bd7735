/- What the nine listed package-level variables give the walks; and a world that holds them. -/
import Derived.Test.YtheeajnkiniopaaGreatDoorZG
import Derived.Test.YtheeajnkiniopaaGreatDoorX0A
import Derived.Test.YtheeajnkiniopaaGreatDoorX0B
set_option maxHeartbeats 1000000
set_option maxRecDepth 100000
namespace Go.Proofs.YtheeajnkiniopaaGreatDoor.Wp
open Go.ChangeShapes Go.WideShapes Go.ChangeAt Go.RowKit
theorem et:Tryz.prog.globalNamed "errors.errorType" = some 1 := q30_
theorem gnF:Tryz.prog.globalNamed "greenwood/matroid.forms" = some 4 := q30_
theorem gtF:(Tryz.prog.globals[4]?).map (·.type)=some 145 := q30_
theorem gn0:Tryz.prog.globalNamed "greenwood/matroid.errDeep" = some 0 := q30_
theorem gn1:Tryz.prog.globalNamed "greenwood/matroid.errKind" = some 2 := q30_
theorem gn2:Tryz.prog.globalNamed "greenwood/matroid.errMany" = some 3 := q30_
theorem gn3:Tryz.prog.globalNamed "greenwood/matroid.errForm" = some 5 := q30_
theorem gn4:Tryz.prog.globalNamed "greenwood/matroid.errFit" = some 6 := q30_
theorem gt0:(Tryz.prog.globals[0]?).map (·.type)=some 81 := q30_
theorem gt1:(Tryz.prog.globals[2]?).map (·.type)=some 81 := q30_
theorem gt2:(Tryz.prog.globals[3]?).map (·.type)=some 81 := q30_
theorem gt3:(Tryz.prog.globals[5]?).map (·.type)=some 81 := q30_
theorem gt4:(Tryz.prog.globals[6]?).map (·.type)=some 81 := q30_
theorem rtT:(Tryz.prog.cutTypes.find? (·.1 == "internal/reflectlite.rtype")).map (·.2)=some 162 := q30_
theorem Vd7:Tryz.prog.types.size=236:=q30_
theorem Vd8:((List.range 236).filter fun t=>Tryz.prog.rowNamed t [101,114,114,111,114])=[81]:=q30_
theorem Zl1:Tryz.prog.cellsOf 224 = 1:=q30_
theorem Zl2:Tryz.prog.cellsOf 9 = 1:=q30_
theorem Yr4:Tryz.prog.cellsOf 144 = 5:=q30_
theorem star : "*" ++ "errors.errorString" = "*errors.errorString" := x30_
theorem rowX (u:TypeId) (h:Tryz.prog.typeName? 3 u=some "*errors.errorString"):u = 203 :=
 typeName_ptr_named (nm := "errors.errorString") (by rw [star];kernel_rfl) q30_ x30_ u (by rw [star];exact h)
def laidQ:List (String × DataW Unit):=[("math/bits.deBruijn32tab",Rows.laid_math_bits_deBruijn32tab),("math/bits.deBruijn64tab",Rows.laid_math_bits_deBruijn64tab),("errors.errorType",Rows.laid_errors_errorType),("greenwood/matroid.forms",Rows.laid_greenwood_matroid_forms),("greenwood/matroid.errDeep",Rows.laid_greenwood_matroid_errDeep),("greenwood/matroid.errKind",Rows.laid_greenwood_matroid_errKind),("greenwood/matroid.errMany",Rows.laid_greenwood_matroid_errMany),("greenwood/matroid.errForm",Rows.laid_greenwood_matroid_errForm),("greenwood/matroid.errFit",Rows.laid_greenwood_matroid_errFit)]
def laidR:List (String × DataW Unit):=[("math/bits.deBruijn32tab",Rows.laid_math_bits_deBruijn32tab),("math/bits.deBruijn64tab",Rows.laid_math_bits_deBruijn64tab),("greenwood/matroid.forms",Rows.laid_greenwood_matroid_forms),("greenwood/matroid.errDeep",Rows.laid_greenwood_matroid_errDeep),("greenwood/matroid.errKind",Rows.laid_greenwood_matroid_errKind),("greenwood/matroid.errMany",Rows.laid_greenwood_matroid_errMany),("greenwood/matroid.errForm",Rows.laid_greenwood_matroid_errForm),("greenwood/matroid.errFit",Rows.laid_greenwood_matroid_errFit)]
theorem Yf5 {W:World} (h:laidMetH Tryz.prog laidQ W):laidMet Tryz.prog laidR W∧handlesMet Tryz.prog [("errors.errorType",Rows.laid_errors_errorType)] W:=h
theorem Zq6 {W:World} (h:handlesMet Tryz.prog [("errors.errorType",Rows.laid_errors_errorType)] W):W.cell? ⟨1,0,none⟩=some (.iface 162 (.agg #[.pointer (some ⟨9, 81,none⟩)])):=by
 obtain ⟨p,u,q,e,f,j,k,c⟩:=h _ (List.mem_singleton.2 rfl);have m:p=[101,114,114,111,114]:=(Option.some.inj e).symm;subst m;obtain rfl:=Option.some.inj (rtT.symm.trans f);have d:q∈(List.range 236).filter fun t=>Tryz.prog.rowNamed t [101,114,114,111,114]:=List.mem_filter.2 ⟨List.mem_range.2 (by rw [← Vd7];exact j),k⟩;rw [Vd8] at d;obtain rfl:=List.mem_singleton.1 d;have o:typeHandle Tryz.prog 81 = .pointer (some ⟨9, 81,none⟩):=q30_;rw [o] at c;simpa using World.var?_cell et c 0
theorem Zt3 {W:World} (k:laidMet Tryz.prog laidR W):Met W:=by
 obtain ⟨g,t,cs,fuel,p,s,u,v,hd⟩:=Lib.laidMet.reads k (n := "math/bits.deBruijn64tab") (d:=Rows.laid_math_bits_deBruijn64tab) (by unfold laidR;simp);obtain rfl:=Option.some.inj (gn64.symm.trans s);obtain rfl:=Option.some.inj (gt64.symm.trans u);have o:DataW.trod (fun _=>()) Tryz.prog W 0 (fun _=>true) false fuel 202 cs.toList=some (.agg (Lib.deBruijn64tab.map fun z:Nat=>DataW.lit (.int .u8 (z:Int))),p):=hd;have j:∀ i,i<64→W.cell? ⟨8,i,none⟩=some (.int .u8 (Lib.deBruijn64tab.getD i 0:Nat)):=by
  intro i f;obtain ⟨f',d,q,c,h2⟩:=Lib.array_elem Tryz.underlying202 o i f;rw [Vz1,Nat.mul_one] at h2;obtain ⟨z,w,r,_⟩:=DataW.trod_int Tryz.underlying5 h2;obtain rfl:d=.lit (.int .u8 z):=congrArg Prod.fst r;have h3:cs.toList[i]?=some (.int .u8 z):=by
   have:=congrArg (·[0]?) w;simpa [List.getElem?_take,List.getElem?_drop] using this
  have e:i<Lib.deBruijn64tab.length:=f;rw [List.getElem?_map,List.getElem?_eq_getElem e] at c;simp only [Option.map_some,Option.some.injEq,DataW.lit.injEq,Lit.int.injEq,true_and] at c;have m:=World.var?_cell gn64 v i;rw [m,← Array.getElem?_toList,h3,← c];simp [List.getD,e]
 refine ⟨?_,j⟩;rcases Nat.lt_or_ge 8 W.heap.size with h | h
 ·exact h
 ·have:=j 0 x30_
  simp [World.cell?,Array.getElem?_eq_none h] at this
def formD (f:Form):DataW Unit:=.agg [.lit (.bool f.fa),.lit (.bool f.fb),.lit (.int .i64 f.lists),.lit (.int .i64 f.least),.lit (.int .i64 f.most)]
theorem Yr5:Rows.laid_greenwood_matroid_forms=.agg ((List.range 10).map fun t:Nat=>formD (form (t:Int))):=by rfl
theorem Zd7 {W:World} (B:laidMet Tryz.prog laidR W) (t:Nat) (h:t<10) :
  W.cell? ⟨4,t * 5,none⟩=some (.bool (form t).fa)∧W.cell? ⟨4,t * 5+1,none⟩=some (.bool (form t).fb)∧W.cell? ⟨4,t * 5+2,none⟩=some (.int .i64 (form t).lists) ∧
   W.cell? ⟨4,t * 5+3,none⟩=some (.int .i64 (form t).least)∧W.cell? ⟨4,t * 5+4,none⟩=some (.int .i64 (form t).most):=by
 obtain ⟨g,T,cs,fuel,p,C,E,F,hd⟩:=Lib.laidMet.reads B (n := "greenwood/matroid.forms") (d:=Rows.laid_greenwood_matroid_forms) (by unfold laidR;simp);obtain rfl:=Option.some.inj (gnF.symm.trans C);obtain rfl:=Option.some.inj (gtF.symm.trans E);rw [Yr5] at hd;obtain ⟨f',d,q,y,h2⟩:=Lib.array_elem Tryz.underlying145 hd t h;rw [Yr4] at h2;rw [List.getElem?_map,List.getElem?_range h] at y;obtain rfl:=Option.some.inj y;obtain ⟨ys,n,z,G,hc,e⟩:=O3_ Tryz.underlying144 q30_ q30_ h2;have c:∀ j,j<5→((cs.toList.drop (t * 5)).take 5)[j]?=W.cell? ⟨4,t * 5+j,none⟩:=by
  intro j D;rw [World.var?_cell gnF F,← Array.getElem?_toList,List.getElem?_take,if_pos D,List.getElem?_drop]
 generalize (cs.toList.drop (t * 5)).take 5=l at *
 match ys,G,l,hc with
 | [y0,y1,y2,y3,y4],_,[c0,c1,c2,c3,c4],_ =>
  have M:=e 0 _ c0 rfl rfl;have N:=e 1 _ c1 rfl rfl;have O:=e 2 _ c2 rfl rfl;have P:=e 3 _ c3 rfl rfl;have Q:=e 4 _ c4 rfl rfl;have q0:=c 0 x30_;have q1:=c 1 x30_;have q2:=c 2 x30_;have q3:=c 3 x30_;have q4:=c 4 x30_;obtain ⟨R,s,H⟩:=DataW.trod_bool Tryz.underlying4 M;obtain ⟨S,u,I⟩:=DataW.trod_bool Tryz.underlying4 N;obtain ⟨U,v,J,_⟩:=DataW.trod_int Tryz.underlying3 O;obtain ⟨V,w,K,_⟩:=DataW.trod_int Tryz.underlying3 P;obtain ⟨X,x,L,_⟩:=DataW.trod_int Tryz.underlying3 Q;simp only [Prod.mk.injEq,List.map_cons,List.map_nil,formD,DataW.agg.injEq,List.cons.injEq,and_true] at z;obtain ⟨⟨f,k,m,o,r⟩,_⟩:=z;subst H I J K L;simp at s u v w x;simp only [DataW.lit.injEq,Lit.bool.injEq,Lit.int.injEq,true_and] at f k m o r;subst s u v w x;rw [f,k,m,o,r];exact ⟨q0.symm,q1.symm,q2.symm,q3.symm,q4.symm⟩
theorem M8_ {W:World} (U:laidMetH Tryz.prog laidQ W):∃ E,Env E W:=by
 obtain ⟨p,T⟩:=Yf5 U;have V:=Zq6 T;have q:=Zt3 p;have hF:=Zd7 p;obtain ⟨ps,⟨gA,tA,xz,fA,pA,qA,xa,xk,xn,x2,⟨gB,tB,y0,fB,pB,qB,xb,xl,xo,x3,⟨gC,tC,y1,fC,pC,qC,xc,xm,xp,x4,⟨g0,t0,G,f0,p0,q0,x5,xf,r,X,⟨g1,t1,H,f1,p1,q1,x6,xg,s,Y,⟨g2,t2,I,f2,p2,q2,x7,xh,w,Z,⟨g3,t3,J,f3,p3,q3,x8,xi,x,x0,⟨g4,t4,K,f4,p4,q4,x9,xj,y,x1,xd,P⟩,O⟩,N⟩,M⟩,L⟩,S⟩,R⟩,Q⟩,hnd,c⟩:=p;obtain rfl:=Option.some.inj (gn0.symm.trans x5);obtain rfl:=Option.some.inj (gn1.symm.trans x6);obtain rfl:=Option.some.inj (gn2.symm.trans x7);obtain rfl:=Option.some.inj (gn3.symm.trans x8);obtain rfl:=Option.some.inj (gn4.symm.trans x9);obtain rfl:=Option.some.inj (gt0.symm.trans xf);obtain rfl:=Option.some.inj (gt1.symm.trans xg);obtain rfl:=Option.some.inj (gt2.symm.trans xh);obtain rfl:=Option.some.inj (gt3.symm.trans xi);obtain rfl:=Option.some.inj (gt4.symm.trans xj);have xe:q4=[]:=xd;subst xe P O N M L S R Q;clear xn xo xp x2 x3 x4 xa xb xc xk xl xm;obtain ⟨l0⟩:=G;obtain ⟨l1⟩:=H;obtain ⟨l2⟩:=I;obtain ⟨l3⟩:=J;obtain ⟨l4⟩:=K;have xu:∀ u v,l0=[.iface u v]→Value.okWide Tryz.prog W .any 0 u v:=fun u v e=>by
  subst e;exact (c 0 0 q33_).2 u v (by simpa using World.var?_cell gn0 r 0)
 have xv:∀ u v,l1=[.iface u v]→Value.okWide Tryz.prog W .any 0 u v:=fun u v e=>by
  subst e;exact (c 2 0 q33_).2 u v (by simpa using World.var?_cell gn1 s 0)
 have xw:∀ u v,l2=[.iface u v]→Value.okWide Tryz.prog W .any 0 u v:=fun u v e=>by
  subst e;exact (c 3 0 q33_).2 u v (by simpa using World.var?_cell gn2 w 0)
 have xx:∀ u v,l3=[.iface u v]→Value.okWide Tryz.prog W .any 0 u v:=fun u v e=>by
  subst e;exact (c 5 0 q33_).2 u v (by simpa using World.var?_cell gn3 x 0)
 have xy:∀ u v,l4=[.iface u v]→Value.okWide Tryz.prog W .any 0 u v:=fun u v e=>by
  subst e;exact (c 6 0 q33_).2 u v (by simpa using World.var?_cell gn4 y 0)
 obtain ⟨f,s0,rfl,y2,_,_,rfl⟩:=errorString_of_trod Tryz.underlying81 rowX Tryz.underlying203 Tryz.underlying224 rfl rfl Tryz.underlying9 Zl1 Zl2 X xu;obtain ⟨h,s1,rfl,y3,_,_,rfl⟩:=errorString_of_trod Tryz.underlying81 rowX Tryz.underlying203 Tryz.underlying224 rfl rfl Tryz.underlying9 Zl1 Zl2 Y xv;obtain ⟨j,s2,rfl,y4,_,_,rfl⟩:=errorString_of_trod Tryz.underlying81 rowX Tryz.underlying203 Tryz.underlying224 rfl rfl Tryz.underlying9 Zl1 Zl2 Z xw;obtain ⟨m,s3,rfl,y5,_,_,rfl⟩:=errorString_of_trod Tryz.underlying81 rowX Tryz.underlying203 Tryz.underlying224 rfl rfl Tryz.underlying9 Zl1 Zl2 x0 xx;obtain ⟨o,s4,rfl,y6,_,_,rfl⟩:=errorString_of_trod Tryz.underlying81 rowX Tryz.underlying203 Tryz.underlying224 rfl rfl Tryz.underlying9 Zl1 Zl2 x1 xy;have z:=(c f.block f.off q33_).1;have B:=(c h.block h.off q33_).1;have C:=(c j.block j.off q33_).1;have D:=(c m.block m.off q33_).1;have F:=(c o.block o.off q33_).1;have hnd:=(List.nodup_append.1 (List.nodup_append.1 (List.nodup_append.1 hnd).2.1).2.1).2.1;have xq:h≠f:=j35_;have xr:j≠f:=j35_;have xs:m≠f:=j35_;have xt:o≠f:=j35_;refine ⟨fun k=>if k=0 then f else if k=1 then h else if k=2 then j else if k=3 then m else o,?_⟩;exact {
  tab:=q
  gt:=V
  g0:=by simpa [eS] using World.var?_cell gn0 r 0
  g1:=by simpa [eS] using World.var?_cell gn1 s 0
  g2:=by simpa [eS] using World.var?_cell gn2 w 0
  g3:=by simpa [eS] using World.var?_cell gn3 x 0
  g4:=by simpa [eS] using World.var?_cell gn4 y 0
  f0:=fun t d=>(hF t d).1
  f1:=fun t d=>(hF t d).2.1
  f2:=fun t d=>(hF t d).2.2.1
  f3:=fun t d=>(hF t d).2.2.2.1
  f4:=fun t d=>(hF t d).2.2.2.2
  nine:=q.lt
  blk:=by
   intro k hk;rcases (by omega:k=0∨k=1∨k=2∨k=3∨k=4) with rfl | rfl | rfl | rfl | rfl
   ·exact z
   ·exact B
   ·exact C
   ·exact D
   ·exact F
  ne:=by
   intro k h1 h4;rcases (by omega:k=1∨k=2∨k=3∨k=4) with rfl | rfl | rfl | rfl
   ·exact xq
   ·exact xr
   ·exact xs
   ·exact xt }
theorem Yf6 {H:Type} {enc:TypeId × Value→H} {W:World} {v:Value} {d:DataW H} {ps:List MemPlace} {base:Nat} (u:Value.okWide Tryz.prog W .any base 37 v)
  (h:DataW.Trod enc Tryz.prog W 0 (fun _=>true) true 37 v d ps) (o:∀ x∈ps,x.block<W.heap.size) {ts:List TypeId} {c:List (DataW H)} (r:(DataW.weightsEach Tryz.prog ts c).all (·≤reachBytes)=true) {j:Nat} (s:ts[j]?=some 37) (hd:c[j]?=some d) :
  ∃ m,MatV W W.heap.size v m∧Lim m:=by
 obtain ⟨cs,rfl,_⟩:=okWide_struct Tryz.underlying37 u;obtain ⟨fuel,k⟩:=h;obtain ⟨e,c1,c2,c3,c4,c5,m,hc,p,hl⟩:=Zy1 _ d fuel _ ps (Nat.le_refl _) k o (fun n q=>by
  have:=List.all_eq_true.1 r n (DataW.weights_mem_each s hd n q);simpa using this)
 obtain ⟨f⟩:=cs;have g:f=[e,c1,c2,c3,c4,c5]:=hc;subst g;exact ⟨m,p,hl⟩
theorem Zt4 {H:Type} {enc:TypeId × Value→H} {W:World} {v:Value} {d:DataW H} {ps:List MemPlace} {base:Nat} (M:Value.okWide Tryz.prog W .any base 22 v)
  (h:DataW.Trod enc Tryz.prog W 0 (fun _=>true) true 22 v d ps) (o:∀ x∈ps,x.block<W.heap.size) {ts:List TypeId} {r:List (DataW H)} (K:(DataW.weightsEach Tryz.prog ts r).all (·≤reachBytes)=true) {j:Nat} (L:ts[j]?=some 22) (hd:r[j]?=some d) :
  ∃ l,MatL W W.heap.size v l∧(l.length≤140737488355328∧∀ x∈l,Lim x):=by
 have w:∀ n∈d.weights Tryz.prog 22,n≤reachBytes:=fun n J=>by
  have:=List.all_eq_true.1 K n (DataW.weights_mem_each L hd n J);simpa using this
 obtain ⟨O,f,Q,rfl⟩:=okWide_slice Tryz.underlying22 M;obtain ⟨fuel,E⟩:=h;rcases Go.Deep.open_slice Tryz.underlying22 E with ⟨g,_⟩ | ⟨a,len,P,m,N,D,y,g,_,G,C,u,hx,s⟩
 ·simp [Value.cells] at g
  obtain ⟨rfl,rfl,rfl⟩:=g;exact ⟨[],MatL.nil_ _ _,y30_,fun x hx=>by cases hx⟩
 ·simp [Value.cells] at g
  obtain ⟨rfl,rfl,rfl⟩:=g;simp only [if_true] at u;subst u;simp only [Prod.mk.injEq] at hx;obtain ⟨rfl,rfl⟩:=hx;rw [Yj8] at s o;have B:0<m→a.block<W.heap.size:=fun R=>o (.cell a.block a.off) (List.mem_append.2 (.inl (MemPlace.mem_row.2 ⟨0,k29_,y30_⟩)));have F:∀ i,i<f→∃ c:Value × Mat,SixV W (a.add (i * 6)) c.1∧MatV W W.heap.size c.1 c.2∧Lim c.2:=by
   intro i hi;obtain ⟨z,h1,h2⟩:=s i k29_;have I:D i∈(List.range f).map D:=List.mem_map.2 ⟨i,List.mem_range.2 hi,rfl⟩;obtain ⟨z0,z1,z2,z3,z4,z5,mm,rfl,hm1,hm2⟩:=Zy1 _ (D i) N z (y i) (Nat.le_refl _) h2 (fun x hx=>o x (List.mem_append.2 (.inr (List.mem_flatMap.2 ⟨i,List.mem_range.2 k29_,hx⟩)))) (fun k hk=>w k (by
    simp only [DataW.weights,Tryz.underlying22];exact List.mem_cons_of_mem _ (List.mem_append.2 (.inl (G1_ I k hk)))))
   exact x3_
  obtain ⟨q,hq⟩:=Go.Deep.choose_lt (α:=Value × Mat) (n:=f) (p:=fun i c=>SixV W (a.add (i * 6)) c.1∧MatV W W.heap.size c.1 c.2∧Lim c.2) F;refine ⟨(List.range f).map fun i=>(q i).2,⟨some a,m,y30_,⟨by simpa using G,C,fun e=>by cases e⟩,fun k hk=>⟨a,(q k).1,rfl,?_,?_,?_⟩⟩,?_,?_⟩
  ·simp at hk
   exact B k29_
  ·simp at hk
   exact (hq k hk).1
  ·exact j20_
  ·have h1:=w ((f+(m - f)) * Tryz.prog.bytesOf 37) (by simp [DataW.weights,Tryz.underlying22])
   have S:=reachBytes_lt;have hb:=Nat.mul_le_mul_left (f+(m - f)) Yj9;simp;omega
  ·exact j17_
theorem Zd8 (os:Os) (args:Array Value):laidMetH Tryz.prog laidQ ((World.doorLaid Tryz.prog 400 os).forCall (fun _ _=>0) ⟨#[],args,[]⟩).memory :=
 laidMetH_of_parts (laidMet_of_run' 8 q30_ q30_) q30_
end Go.Proofs.YtheeajnkiniopaaGreatDoor.Wp
