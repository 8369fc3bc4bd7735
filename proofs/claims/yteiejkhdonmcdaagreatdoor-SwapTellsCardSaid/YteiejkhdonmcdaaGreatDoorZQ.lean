/- What a matroid is, plain: how deep it is, and whether it may be; what hangs on nothing of the memory. Matroids in memory, as the walks take them. -/
import Derived.Test.YteiejkhdonmcdaaGreatDoorZA
import Derived.Test.YteiejkhdonmcdaaGreatDoorZM
import Derived.Test.YteiejkhdonmcdaaGreatDoorX0A
namespace Go.Proofs.YteiejkhdonmcdaaGreatDoor.Wp
open Go Go.RowKit
def wrongB (p x:Int):Bool:=decide (x<0∨p≤x)
def badRow (p rows:Int) (col:List Int):Bool:=decide ((col.length:Int)≠rows) || col.any (wrongB p)
def elimB (p rows:Int) (cols:List (List Int)):Bool:=prB p && decide (0≤rows∧rows≤64) && decide (cols.length≤64) && !cols.any (badRow p rows)
inductive Mat where
 | mk (t n a b:Int) (l:List (List Int)) (i:List Mat)
instance:Inhabited Mat:=⟨.mk 0 0 0 0 [] []⟩
namespace Mat
def t:Mat→Int | mk t _ _ _ _ _=>t
def n:Mat→Int | mk _ n _ _ _ _=>n
def a:Mat→Int | mk _ _ a _ _ _=>a
def b:Mat→Int | mk _ _ _ b _ _=>b
def l:Mat→List (List Int) | mk _ _ _ _ l _=>l
def i:Mat→List Mat | mk _ _ _ _ _ i=>i
end Mat
inductive Sml:Mat→Prop
 | mk {t n a b:Int} {l:List (List Int)} {i:List Mat} (h1:l.length≤1000) (h2:∀ r∈l,r.length≤1000) (h3:i.length≤1000) (h4:∀ x∈i,Sml x):Sml (.mk t n a b l i)
def nest (t:Int):Prop:=5≤t∧t≤9
instance (t:Int):Decidable (nest t):=inferInstanceAs (Decidable (_∧_))
def maxN:List Nat→Nat
 | []=>0
 | x :: r=>max x (maxN r)
theorem Yq9 {x:Nat}:∀ {l:List Nat},x∈l→x≤maxN l
 | y :: r,h=>by
  rw [List.mem_cons] at h;unfold maxN;rcases h with rfl | h
  ·omega
  ·have:=Yq9 h;omega
theorem Zb1 {k:Nat}:∀ {l:List Nat},(∀ x∈l,x≤k)→maxN l≤k
 | [],_=>Nat.zero_le _
 | y :: r,h=>by
  unfold maxN;have c:=h y j39_;have d:=Zb1 (l:=r) fun x hx=>h x z42_;omega
theorem Ya0 (a b:List Nat):maxN (a ++ b)=max (maxN a) (maxN b):=by
 induction a with
 | nil=>simp [maxN]
 | cons x r ih=>rw [List.cons_append,maxN,maxN,ih];omega
def dp:Nat→Mat→Nat
 | 0,_=>1
 | k+1,m=>if nest m.t then 1+maxN (m.i.map (dp k)) else 1
theorem Zb2 (k:Nat) (m:Mat):1≤dp k m:=by
 cases k with
 | zero=>exact Nat.le_refl _
 | succ k=>unfold dp;split<;>omega
theorem dp_le:∀ (k:Nat) (m:Mat),dp k m≤k+1
 | 0,_=>Nat.le_refl _
 | k+1,m=>by
  unfold dp;split
  ·have:maxN (m.i.map (dp k))≤k+1:=Zb1 fun x hx=>j22_
   omega
  ·omega
theorem Yh1 (k:Nat):∀ l:List Nat,maxN (l.map (min k))=min k (maxN l)
 | []=>by simp [maxN]
 | x :: r=>by
  rw [List.map_cons,maxN,maxN,Yh1 k r];omega
theorem Ya1:∀ (k:Nat) (m:Mat),dp k m=min (k+1) (dp (k+1) m)
 | 0,m=>by
  have d:=Zb2 (0+1) m;have c:dp 0 m=1:=rfl;omega
 | k+1,m=>by
  rw [dp,dp];split
  ·have h:m.i.map (dp k)=(m.i.map (dp (k+1))).map (min (k+1)):=by
    rw [List.map_map];exact List.map_congr_left fun x _=>Ya1 k x
   rw [h,Yh1];omega
  ·omega
theorem Zj4 {k:Nat} {m x:Mat} (h:nest m.t) (c:x∈m.i):dp k x+1≤dp (k+1) m:=by
 rw [dp,if_pos h];have:=Yq9 (List.mem_map_of_mem (f:=dp k) c);omega
def outB (below x:Int):Bool:=decide (x<0∨below≤x)
def numsB (l:List Int) (many below:Int):Bool:=decide ((l.length:Int)=many) && !l.any (outB below)
def row (m:Mat) (k:Nat):List Int:=m.l.getD k []
def inn (m:Mat):Mat:=m.i.getD 0 default
def tog (l:List Mat):Int:=l.foldl (fun n x=>IntKind.i64.wrap (n+x.n)) 0
def partB (m:Mat):Bool:=subB (row m 0) (allL (inn m).n)
def edgeB (A:Int) (r:List Int):Bool:=!numsB r 2 A
def fitsB (m:Mat):Bool :=
 if m.t=0 then decide (m.a≤m.n)
 else if m.t=1 then decide (1≤m.a) && !m.l.any (edgeB m.a)
 else if m.t=2 then numsB (row m 0) m.n m.a && numsB (row m 1) m.a 65
 else if m.t=3 then mayM m.a m.l
 else if m.t=4 then elimB m.b m.a m.l
 else if m.t=5 then partB m && decide (m.n=(row m 0).length)
 else if m.t=6 then partB m && decide (IntKind.i64.wrap (m.n+(row m 0).length)=(inn m).n)
 else decide (m.n=tog m.i)
structure Form where
 fa:Bool
 fb:Bool
 lists:Int
 least:Int
 most:Int
def form (t:Int):Form :=
 if t=0 then ⟨true,false,0,0,0⟩ else if t=1 then ⟨true,false,-1,0,0⟩ else if t=2 then ⟨true,false,2,0,0⟩ else if t=3 then ⟨true,false,-1,0,0⟩ else if t=4 then ⟨true,true,-1,0,0⟩
 else if t=5 then ⟨false,false,1,1,1⟩ else if t=6 then ⟨false,false,1,1,1⟩ else if t=7 then ⟨true,false,0,1,1⟩ else if t=8 then ⟨false,false,0,1,1⟩ else ⟨false,false,0,1,8⟩
def Z8_ (f:Form) (m:Mat):Bool :=
 (f.fa || decide (m.a=0)) && (f.fb || decide (m.b=0)) && decide ((m.l.length:Int)=(if f.lists=-1 then m.n else f.lists)) && decide (f.least≤(m.i.length:Int)) && decide ((m.i.length:Int)≤f.most)
def bad (m:Mat):Nat :=
 if m.t<0∨10≤m.t then 1
 else if m.n<0∨64<m.n∨m.a<0∨64<m.a then 2
 else if Z8_ (form m.t) m=false then 3
 else if fitsB m=false then 4 else 0
def ok:Nat→Mat→Bool
 | 0,_=>false
 | k+1,m=>decide (bad m=0) && m.i.all (ok k)
def chk (m:Mat):Int:=if dp 4 m=5 then 91 else if ok 4 m then 0 else 90
def deepI (m:Mat):Int:=(dp 4 m:Int)
theorem V1_ {m:Mat} (h:bad m=0):(0≤m.t∧m.t<10)∧(0≤m.n∧m.n≤64∧0≤m.a∧m.a≤64)∧Z8_ (form m.t) m=true∧fitsB m=true:=by
 unfold bad at h;split at h
 ·cases h
 split at h
 ·cases h
 split at h
 ·cases h
 split at h
 ·cases h
 rename_i h1 h2 h3 h4
 exact ⟨q39_,q39_,by simpa using h3,by simpa using h4⟩
theorem Vx6 {m:Mat} (d:0≤m.t∧m.t<10) (e:0≤m.n∧m.n≤64∧0≤m.a∧m.a≤64) (h3:Z8_ (form m.t) m=true) (c:fitsB m=true):bad m=0:=by
 unfold bad;rw [if_neg q39_,if_neg q39_,h3,c];simp
theorem takes_iff {f:Form} {m:Mat}:Z8_ f m=true↔(f.fa=true∨m.a=0)∧(f.fb=true∨m.b=0)∧(m.l.length:Int)=(if f.lists=-1 then m.n else f.lists)∧f.least≤(m.i.length:Int)∧(m.i.length:Int)≤f.most:=by
 unfold Z8_;simp only [Bool.and_eq_true,Bool.or_eq_true,decide_eq_true_iff,and_assoc]
theorem T3_ {m:Mat} (h:bad m=0) (d:¬ nest m.t):m.i=[]:=by
 obtain ⟨f,_,h3,_⟩:=V1_ h;have c:=(takes_iff.1 h3).2.2.2.2;have:(form m.t).most=0:=by
  unfold nest at d;unfold form;have:m.t=0∨m.t=1∨m.t=2∨m.t=3∨m.t=4:=q39_;rcases this with e | e | e | e | e<;>rw [e]<;>rfl
 rw [this] at c;exact List.eq_nil_of_length_eq_zero q39_
theorem Ya2:∀ {k:Nat} {m:Mat},dp k m≤k→ok (k+1) m=ok k m
 | 0,m,h=>absurd h (by have:=Zb2 0 m;omega)
 | k+1,m,h=>by
  rw [ok,ok];rcases Decidable.em (bad m=0) with hb | hb
  ·rw [decide_eq_true hb,Bool.true_and,Bool.true_and]
   rcases Decidable.em (nest m.t) with d | d
   ·rw [Bool.eq_iff_iff,List.all_eq_true,List.all_eq_true]
    have e:∀ x∈m.i,ok (k+1) x=ok k x:=fun x c=>Ya2 (by have:=Zj4 (k:=k) d c;omega);exact ⟨fun h x c=>by rw [← e x c];exact h x c,fun h x c=>by rw [e x c];exact h x c⟩
   ·rw [T3_ hb d]
    rfl
  ·rw [decide_eq_false hb]
   rfl
theorem chk_ok {m:Mat}:chk m=0↔dp 4 m≤4∧ok 4 m=true:=by
 unfold chk;have:=dp_le 4 m;split
 ·constructor
  ·intro h;cases h
  ·omega
 ·split
  ·exact ⟨fun _=>⟨q39_,by assumption⟩,fun _=>rfl⟩
  ·constructor
   ·intro h;cases h
   ·rintro ⟨_,h⟩;contradiction
end Go.Proofs.YteiejkhdonmcdaaGreatDoor.Wp
namespace Go.Proofs.YteiejkhdonmcdaaGreatDoor.Wp
open Go Go.RowKit
def SixV (w:World) (p:Addr) (v:Value):Prop :=
 ∃ x0 x1 x2 x3 x4 x5,v=.agg #[x0,x1,x2,x3,x4,x5]∧w.cell? p=some x0∧w.cell? ⟨p.block,p.off+1,none⟩=some x1∧w.cell? ⟨p.block,p.off+2,none⟩=some x2 ∧
  w.cell? ⟨p.block,p.off+3,none⟩=some x3∧w.cell? ⟨p.block,p.off+4,none⟩=some x4∧w.cell? ⟨p.block,p.off+5,none⟩=some x5
theorem SixV.below {w w':World} {B:Nat} {p:Addr} {v:Value} (h:SixV w p v) (hb:Below B w w') (c:p.block<B):SixV w' p v:=by
 obtain ⟨m,o,q,r,s,u,k,d,e,f,h3,g,j⟩:=h;exact ⟨m,o,q,r,s,u,k,(hb.cell (by exact c)).trans d,(hb.cell (by exact c)).trans e,(hb.cell (by exact c)).trans f,(hb.cell (by exact c)).trans h3,(hb.cell (by exact c)).trans g,(hb.cell (by exact c)).trans j⟩
inductive MatV (w:World) (B:Nat):Value→Mat→Prop
 | mk {t n a b:Int} {l:List (List Int)} {i:List Mat} {lv:Value} {A:Option Addr} {c:Nat} (V:Nat→Value)
   (hl:Rows2 w B lv l) (hn:i.length≤c∧c≤maxLen∧(A=none→c=0))
   (hc:∀ k,k<i.length→∃ ad:Addr,A=some ad∧ad.block<B∧SixV w (ad.add (k * 6)) (V k))
   (hi:∀ k,k<i.length→MatV w B (V k) (i.getD k default)) :
   MatV w B (.agg #[.int .i64 t,.int .i64 n,.int .i64 a,.int .i64 b,lv,.slice A i.length c]) (.mk t n a b l i)
def MatL (w:World) (B:Nat) (v:Value) (i:List Mat):Prop :=
 ∃ A c,v=.slice A i.length c∧(i.length≤c∧c≤maxLen∧(A=none→c=0)) ∧
  ∀ k,k<i.length→∃ (ad:Addr) (u:Value),A=some ad∧ad.block<B∧SixV w (ad.add (k * 6)) u∧MatV w B u (i.getD k default)
theorem MatV.open {w:World} {B:Nat} {v:Value} {m:Mat} (h:MatV w B v m) :
  ∃ e d,v=.agg #[.int .i64 m.t,.int .i64 m.n,.int .i64 m.a,.int .i64 m.b,e,d]∧Rows2 w B e m.l∧MatL w B d m.i:=by
 obtain ⟨V,hl,j,hc,g⟩:=h;refine ⟨_,_,rfl,hl,_,_,rfl,j,fun k c=>?_⟩;obtain ⟨f,hA,hB,hs⟩:=hc k c;exact ⟨f,V k,hA,hB,hs,g k c⟩
theorem MatV.shut {w:World} {B:Nat} {o m:Value} {t n a b:Int} {l:List (List Int)} {i:List Mat} (hl:Rows2 w B o l) (q:MatL w B m i) :
  MatV w B (.agg #[.int .i64 t,.int .i64 n,.int .i64 a,.int .i64 b,o,m]) (.mk t n a b l i):=by
 obtain ⟨A,c,rfl,s,r⟩:=q;have h:∀ k,∃ u,k<i.length→∃ d:Addr,A=some d∧d.block<B∧SixV w (d.add (k * 6)) u∧MatV w B u (i.getD k default):=fun k=>by
  by_cases h:k<i.length
  ·obtain ⟨d,u,e,f,h3,g⟩:=r k h
   exact ⟨u,fun _=>⟨d,e,f,h3,g⟩⟩
  ·exact ⟨.nilIface,fun p=>absurd p h⟩
 obtain ⟨V,j⟩:=Classical.axiomOfChoice h;refine .mk V hl s (fun k h=>?_) (fun k h=>?_)
 ·obtain ⟨d,e,f,h3,_⟩:=j k h
  exact ⟨d,e,f,h3⟩
 ·obtain ⟨d,_,_,_,g⟩:=j k h
  exact g
theorem MatV.bel {w w':World} {B:Nat} {v:Value} {m:Mat} (h:MatV w B v m) (hb:Below B w w'):MatV w' B v m:=by
 induction h with
 | mk V hl hn hc _ ih =>
  refine .mk V (hl.below hb) hn (fun k d=>?_) ih;obtain ⟨c,hA,hB,hs⟩:=hc k d;exact ⟨c,hA,hB,hs.below hb q46_⟩
theorem MatV.mono {w:World} {B c:Nat} {v:Value} {m:Mat} (h:MatV w B v m) (hB:B≤c):MatV w c v m:=by
 induction h with
 | mk V hl hn hc _ ih =>
  refine .mk V (hl.mono hB) hn (fun k e=>?_) ih;obtain ⟨d,hA,f,hs⟩:=hc k e;exact ⟨d,hA,q39_,hs⟩
theorem MatL.below {w w':World} {B:Nat} {v:Value} {i:List Mat} (h:MatL w B v i) (hb:Below B w w'):MatL w' B v i:=by
 obtain ⟨A,c,m,j,e⟩:=h;refine ⟨A,c,m,j,fun k f=>?_⟩;obtain ⟨d,u,hA,hB,hs,g⟩:=e k f;exact ⟨d,u,hA,hB,hs.below hb q46_,g.bel hb⟩
theorem MatL.mono {w:World} {B d:Nat} {v:Value} {i:List Mat} (h:MatL w B v i) (hB:B≤d):MatL w d v i:=by
 obtain ⟨A,c,o,m,f⟩:=h;refine ⟨A,c,o,m,fun k g=>?_⟩;obtain ⟨e,u,hA,hb,hs,j⟩:=f k g;exact ⟨e,u,hA,q39_,hs,j.mono hB⟩
theorem MatV.up {w w':World} {v:Value} {m:Mat} (h:MatV w w.heap.size v m) (hb:Below w.heap.size w w'):MatV w' w'.heap.size v m:=(h.bel hb).mono hb.size
theorem MatL.up {w w':World} {v:Value} {m:List Mat} (h:MatL w w.heap.size v m) (hb:Below w.heap.size w w'):MatL w' w'.heap.size v m:=(h.below hb).mono hb.size
theorem MatV.upA {w:World} {v:Value} {m:Mat} (h:MatV w w.heap.size v m) (o:Obj):MatV (w.alloc o) (w.alloc o).heap.size v m:=h.up ((Below.refl _ w).alloc (Nat.le_refl _) o)
theorem MatL.upA {w:World} {v:Value} {m:List Mat} (h:MatL w w.heap.size v m) (o:Obj):MatL (w.alloc o) (w.alloc o).heap.size v m:=h.up ((Below.refl _ w).alloc (Nat.le_refl _) o)
theorem MatL.nil_ (w:World) (B:Nat):MatL w B (.slice none 0 0) []:=⟨none,0,rfl,⟨Nat.le_refl _,x40_,fun _=>rfl⟩,fun k c=>absurd c j39_⟩
def eS (a:Addr):Value:=.iface 200 (.pointer (some a))
def formV (f:Form):Value:=.agg #[.bool f.fa,.bool f.fb,.int .i64 f.lists,.int .i64 f.least,.int .i64 f.most]
structure Env (E:Nat→Addr) (w:World):Prop where
 tab:Met w
 gt:w.cell? ⟨1,0,none⟩=some (.iface 178 (.agg #[.pointer (some ⟨9, 94,none⟩)]))
 g0:w.cell? ⟨0,0,none⟩=some (eS (E 0))
 g1:w.cell? ⟨2,0,none⟩=some (eS (E 1))
 g2:w.cell? ⟨3,0,none⟩=some (eS (E 2))
 g3:w.cell? ⟨5,0,none⟩=some (eS (E 3))
 g4:w.cell? ⟨6,0,none⟩=some (eS (E 4))
 f0:∀ t:Nat,t<10→w.cell? ⟨4,t * 5,none⟩=some (.bool (form t).fa)
 f1:∀ t:Nat,t<10→w.cell? ⟨4,t * 5+1,none⟩=some (.bool (form t).fb)
 f2:∀ t:Nat,t<10→w.cell? ⟨4,t * 5+2,none⟩=some (.int .i64 (form t).lists)
 f3:∀ t:Nat,t<10→w.cell? ⟨4,t * 5+3,none⟩=some (.int .i64 (form t).least)
 f4:∀ t:Nat,t<10→w.cell? ⟨4,t * 5+4,none⟩=some (.int .i64 (form t).most)
 nine:9≤w.heap.size
 blk:∀ k,k≤4→∃ cs t,w.heap[(E k).block]?=some (.cells cs t (0,0))
 ne:∀ k,1≤k→k≤4→E k≠E 0
theorem R6_ {w:World} {b:Nat} {o:Obj} (h:w.heap[b]?=some o):b<w.heap.size:=by
 rcases Nat.lt_or_ge b w.heap.size with c | c
 ·exact c
 ·rw [Array.getElem?_eq_none c] at h;cases h
theorem Env.up {E:Nat→Addr} {w w':World} (h:Env E w) (hb:Below w.heap.size w w'):Env E w':=by
 have e:=h.nine;have c:∀ {g o:Nat} {v:Value},g<9→w.cell? ⟨g,o,none⟩=some v→w'.cell? ⟨g,o,none⟩=some v:=fun {g o v} hg hv=>(hb.cell (p:=⟨g,o,none⟩) (by show g<_;omega)).trans hv;exact ⟨h.tab.up hb,c x40_ h.gt,c x40_ h.g0,c x40_ h.g1,c x40_ h.g2,c x40_ h.g3,c x40_ h.g4,
  fun t d=>c x40_ (h.f0 t d),fun t d=>c x40_ (h.f1 t d),fun t d=>c x40_ (h.f2 t d),fun t d=>c x40_ (h.f3 t d),fun t d=>c x40_ (h.f4 t d),
  Nat.le_trans e hb.size,fun k f=>by
   obtain ⟨cs,t,hc⟩:=h.blk k f;exact ⟨cs,t,(hb.block _ (R6_ hc)).trans hc⟩,h.ne⟩
theorem Env.upA {E:Nat→Addr} {w:World} (h:Env E w) (o:Obj):Env E (w.alloc o):=h.up ((Below.refl _ w).alloc (Nat.le_refl _) o)
end Go.Proofs.YteiejkhdonmcdaaGreatDoor.Wp
