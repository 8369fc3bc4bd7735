/- What a matroid is, plain: how deep it is, and whether it may be; what hangs on nothing of the memory. Matroids in memory, as the walks take them. -/
import Derived.Test.YtigobiacbficaaaGreatDoorZA
import Derived.Test.YtigobiacbficaaaGreatDoorZM
import Derived.Test.YtigobiacbficaaaGreatDoorX0A
namespace Go.Proofs.YtigobiacbficaaaGreatDoor.Wp
open Go Go.RowKit
def wrongB (p x:Int):Bool:=decide (x<0∨p≤x)
def badRow (p rows:Int) (col:List Int):Bool:=decide ((col.length:Int)≠rows) || col.any (wrongB p)
def elimB (p rows:Int) (cols:List (List Int)):Bool:=prB p && decide (0≤rows∧rows≤64) && decide (cols.length≤64) && !cols.any (badRow p rows)
inductive Mat where
 | mk (t n a b:Int) (l:List (List Int)) (i:List Mat)
instance:Inhabited Mat:=⟨.mk 0 0 0 0 [] []⟩
namespace Mat
def t:Mat→Int | mk t _ _ _ _ _=>t
def n:Mat→Int | mk _ n _ _ _ _=>n
def a:Mat→Int | mk _ _ a _ _ _=>a
def b:Mat→Int | mk _ _ _ b _ _=>b
def l:Mat→List (List Int) | mk _ _ _ _ l _=>l
def i:Mat→List Mat | mk _ _ _ _ _ i=>i
end Mat
inductive Sml:Mat→Prop
 | mk {t n a b:Int} {l:List (List Int)} {i:List Mat} (h1:l.length≤1000) (h2:∀ r∈l,r.length≤1000) (h3:i.length≤1000) (h4:∀ x∈i,Sml x):Sml (.mk t n a b l i)
def nest (t:Int):Prop:=5≤t∧t≤9
instance (t:Int):Decidable (nest t):=inferInstanceAs (Decidable (_∧_))
def maxN:List Nat→Nat
 | []=>0
 | x :: r=>max x (maxN r)
theorem Yh3 {x:Nat}:∀ {l:List Nat},x∈l→x≤maxN l
 | y :: r,h=>by
  rw [List.mem_cons] at h;unfold maxN;rcases h with rfl | h
  ·omega
  ·have:=Yh3 h;omega
theorem Zd6 {k:Nat}:∀ {l:List Nat},(∀ x∈l,x≤k)→maxN l≤k
 | [],_=>Nat.zero_le _
 | y :: r,h=>by
  unfold maxN;have c:=h y k40_;have h2:=Zd6 (l:=r) fun x hx=>h x q46_;omega
theorem Yh4 (a b:List Nat):maxN (a ++ b)=max (maxN a) (maxN b):=by
 induction a with
 | nil=>simp [maxN]
 | cons x r ih=>rw [List.cons_append,maxN,maxN,ih];omega
def dp:Nat→Mat→Nat
 | 0,_=>1
 | k+1,m=>if nest m.t then 1+maxN (m.i.map (dp k)) else 1
theorem Zd7 (k:Nat) (m:Mat):1≤dp k m:=by
 cases k with
 | zero=>exact Nat.le_refl _
 | succ k=>unfold dp;split<;>omega
theorem dp_le:∀ (k:Nat) (m:Mat),dp k m≤k+1
 | 0,_=>Nat.le_refl _
 | k+1,m=>by
  unfold dp;split
  ·have:maxN (m.i.map (dp k))≤k+1:=Zd6 fun x hx=>x24_
   omega
  ·omega
theorem Yr4 (k:Nat):∀ l:List Nat,maxN (l.map (min k))=min k (maxN l)
 | []=>by simp [maxN]
 | x :: r=>by
  rw [List.map_cons,maxN,maxN,Yr4 k r];omega
theorem Yh5:∀ (k:Nat) (m:Mat),dp k m=min (k+1) (dp (k+1) m)
 | 0,m=>by
  have d:=Zd7 (0+1) m;have c:dp 0 m=1:=rfl;omega
 | k+1,m=>by
  rw [dp,dp];split
  ·have h:m.i.map (dp k)=(m.i.map (dp (k+1))).map (min (k+1)):=by
    rw [List.map_map];exact List.map_congr_left fun x _=>Yh5 k x
   rw [h,Yr4];omega
  ·omega
theorem Zq9 {k:Nat} {m x:Mat} (h:nest m.t) (c:x∈m.i):dp k x+1≤dp (k+1) m:=by
 rw [dp,if_pos h];have:=Yh3 (List.mem_map_of_mem (f:=dp k) c);omega
def outB (below x:Int):Bool:=decide (x<0∨below≤x)
def numsB (l:List Int) (many below:Int):Bool:=decide ((l.length:Int)=many) && !l.any (outB below)
def row (m:Mat) (k:Nat):List Int:=m.l.getD k []
def inn (m:Mat):Mat:=m.i.getD 0 default
def tog (l:List Mat):Int:=l.foldl (fun n x=>IntKind.i64.wrap (n+x.n)) 0
def partB (m:Mat):Bool:=subB (row m 0) (allL (inn m).n)
def edgeB (A:Int) (r:List Int):Bool:=!numsB r 2 A
def fitsB (m:Mat):Bool :=
 if m.t=0 then decide (m.a≤m.n)
 else if m.t=1 then decide (1≤m.a) && !m.l.any (edgeB m.a)
 else if m.t=2 then numsB (row m 0) m.n m.a && numsB (row m 1) m.a 65
 else if m.t=3 then mayM m.a m.l
 else if m.t=4 then elimB m.b m.a m.l
 else if m.t=5 then partB m && decide (m.n=(row m 0).length)
 else if m.t=6 then partB m && decide (IntKind.i64.wrap (m.n+(row m 0).length)=(inn m).n)
 else decide (m.n=tog m.i)
structure Form where
 fa:Bool
 fb:Bool
 lists:Int
 least:Int
 most:Int
def form (t:Int):Form :=
 if t=0 then ⟨true,false,0,0,0⟩ else if t=1 then ⟨true,false,-1,0,0⟩ else if t=2 then ⟨true,false,2,0,0⟩ else if t=3 then ⟨true,false,-1,0,0⟩ else if t=4 then ⟨true,true,-1,0,0⟩
 else if t=5 then ⟨false,false,1,1,1⟩ else if t=6 then ⟨false,false,1,1,1⟩ else if t=7 then ⟨true,false,0,1,1⟩ else if t=8 then ⟨false,false,0,1,1⟩ else ⟨false,false,0,1,8⟩
def Z9_ (f:Form) (m:Mat):Bool :=
 (f.fa || decide (m.a=0)) && (f.fb || decide (m.b=0)) && decide ((m.l.length:Int)=(if f.lists=-1 then m.n else f.lists)) && decide (f.least≤(m.i.length:Int)) && decide ((m.i.length:Int)≤f.most)
def bad (m:Mat):Nat :=
 if m.t<0∨10≤m.t then 1
 else if m.n<0∨64<m.n∨m.a<0∨64<m.a then 2
 else if Z9_ (form m.t) m=false then 3
 else if fitsB m=false then 4 else 0
def ok:Nat→Mat→Bool
 | 0,_=>false
 | k+1,m=>decide (bad m=0) && m.i.all (ok k)
def chk (m:Mat):Int:=if dp 4 m=5 then 91 else if ok 4 m then 0 else 90
def deepI (m:Mat):Int:=(dp 4 m:Int)
theorem V1_ {m:Mat} (h:bad m=0):(0≤m.t∧m.t<10)∧(0≤m.n∧m.n≤64∧0≤m.a∧m.a≤64)∧Z9_ (form m.t) m=true∧fitsB m=true:=by
 unfold bad at h;split at h
 ·cases h
 split at h
 ·cases h
 split at h
 ·cases h
 split at h
 ·cases h
 rename_i h1 h2 h3 h4
 exact ⟨y40_,y40_,by simpa using h3,by simpa using h4⟩
theorem Xh7 {m:Mat} (d:0≤m.t∧m.t<10) (h2:0≤m.n∧m.n≤64∧0≤m.a∧m.a≤64) (h3:Z9_ (form m.t) m=true) (c:fitsB m=true):bad m=0:=by
 unfold bad;rw [if_neg y40_,if_neg y40_,h3,c];simp
theorem takes_iff {f:Form} {m:Mat}:Z9_ f m=true↔(f.fa=true∨m.a=0)∧(f.fb=true∨m.b=0)∧(m.l.length:Int)=(if f.lists=-1 then m.n else f.lists)∧f.least≤(m.i.length:Int)∧(m.i.length:Int)≤f.most:=by
 unfold Z9_;simp only [Bool.and_eq_true,Bool.or_eq_true,decide_eq_true_iff,and_assoc]
theorem W0_ {m:Mat} (h:bad m=0) (d:¬ nest m.t):m.i=[]:=by
 obtain ⟨f,_,h3,_⟩:=V1_ h;have c:=(takes_iff.1 h3).2.2.2.2;have:(form m.t).most=0:=by
  unfold nest at d;unfold form;have:m.t=0∨m.t=1∨m.t=2∨m.t=3∨m.t=4:=y40_;rcases this with e | e | e | e | e<;>rw [e]<;>rfl
 rw [this] at c;exact List.eq_nil_of_length_eq_zero y40_
theorem Yh6:∀ {k:Nat} {m:Mat},dp k m≤k→ok (k+1) m=ok k m
 | 0,m,h=>absurd h (by have:=Zd7 0 m;omega)
 | k+1,m,h=>by
  rw [ok,ok];rcases Decidable.em (bad m=0) with hb | hb
  ·rw [decide_eq_true hb,Bool.true_and,Bool.true_and]
   rcases Decidable.em (nest m.t) with d | d
   ·rw [Bool.eq_iff_iff,List.all_eq_true,List.all_eq_true]
    have e:∀ x∈m.i,ok (k+1) x=ok k x:=fun x c=>Yh6 (by have:=Zq9 (k:=k) d c;omega);exact ⟨fun h x c=>by rw [← e x c];exact h x c,fun h x c=>by rw [e x c];exact h x c⟩
   ·rw [W0_ hb d]
    rfl
  ·rw [decide_eq_false hb]
   rfl
theorem chk_ok {m:Mat}:chk m=0↔dp 4 m≤4∧ok 4 m=true:=by
 unfold chk;have:=dp_le 4 m;split
 ·constructor
  ·intro h;cases h
  ·omega
 ·split
  ·exact ⟨fun _=>⟨y40_,by assumption⟩,fun _=>rfl⟩
  ·constructor
   ·intro h;cases h
   ·rintro ⟨_,h⟩;contradiction
open Go Go.RowKit
def SixV (w:World) (p:Addr) (v:Value):Prop :=
 ∃ x0 x1 x2 x3 x4 x5,v=.agg #[x0,x1,x2,x3,x4,x5]∧w.cell? p=some x0∧w.cell? ⟨p.block,p.off+1,none⟩=some x1∧w.cell? ⟨p.block,p.off+2,none⟩=some x2 ∧
  w.cell? ⟨p.block,p.off+3,none⟩=some x3∧w.cell? ⟨p.block,p.off+4,none⟩=some x4∧w.cell? ⟨p.block,p.off+5,none⟩=some x5
theorem SixV.below {w w':World} {B:Nat} {p:Addr} {v:Value} (h:SixV w p v) (hb:Below B w w') (c:p.block<B):SixV w' p v:=by
 obtain ⟨k,m,o,q,r,s,j,d,e,h2,h3,f,g⟩:=h;exact ⟨k,m,o,q,r,s,j,(hb.cell (by exact c)).trans d,(hb.cell (by exact c)).trans e,(hb.cell (by exact c)).trans h2,(hb.cell (by exact c)).trans h3,(hb.cell (by exact c)).trans f,(hb.cell (by exact c)).trans g⟩
inductive MatV (w:World) (B:Nat):Value→Mat→Prop
 | mk {t n a b:Int} {l:List (List Int)} {i:List Mat} {lv:Value} {A:Option Addr} {c:Nat} (V:Nat→Value)
   (hl:Rows2 w B lv l) (hn:i.length≤c∧c≤maxLen∧(A=none→c=0))
   (hc:∀ k,k<i.length→∃ ad:Addr,A=some ad∧ad.block<B∧SixV w (ad.add (k * 6)) (V k))
   (hi:∀ k,k<i.length→MatV w B (V k) (i.getD k default)) :
   MatV w B (.agg #[.int .i64 t,.int .i64 n,.int .i64 a,.int .i64 b,lv,.slice A i.length c]) (.mk t n a b l i)
def MatL (w:World) (B:Nat) (v:Value) (i:List Mat):Prop :=
 ∃ A c,v=.slice A i.length c∧(i.length≤c∧c≤maxLen∧(A=none→c=0)) ∧
  ∀ k,k<i.length→∃ (ad:Addr) (u:Value),A=some ad∧ad.block<B∧SixV w (ad.add (k * 6)) u∧MatV w B u (i.getD k default)
theorem MatV.open {w:World} {B:Nat} {v:Value} {m:Mat} (h:MatV w B v m) :
  ∃ e d,v=.agg #[.int .i64 m.t,.int .i64 m.n,.int .i64 m.a,.int .i64 m.b,e,d]∧Rows2 w B e m.l∧MatL w B d m.i:=by
 obtain ⟨V,hl,p,hc,o⟩:=h;refine ⟨_,_,rfl,hl,_,_,rfl,p,fun k c=>?_⟩;obtain ⟨f,g,j,hs⟩:=hc k c;exact ⟨f,V k,g,j,hs,o k c⟩
theorem MatV.shut {w:World} {B:Nat} {m j:Value} {t n a b:Int} {l:List (List Int)} {i:List Mat} (hl:Rows2 w B m l) (p:MatL w B j i) :
  MatV w B (.agg #[.int .i64 t,.int .i64 n,.int .i64 a,.int .i64 b,m,j]) (.mk t n a b l i):=by
 obtain ⟨A,c,rfl,r,q⟩:=p;have h:∀ k,∃ u,k<i.length→∃ d:Addr,A=some d∧d.block<B∧SixV w (d.add (k * 6)) u∧MatV w B u (i.getD k default):=fun k=>by
  by_cases h:k<i.length
  ·obtain ⟨d,u,e,h2,h3,f⟩:=q k h
   exact ⟨u,fun _=>⟨d,e,h2,h3,f⟩⟩
  ·exact ⟨.nilIface,fun o=>absurd o h⟩
 obtain ⟨V,g⟩:=Classical.axiomOfChoice h;refine .mk V hl r (fun k h=>?_) (fun k h=>?_)
 ·obtain ⟨d,e,h2,h3,_⟩:=g k h
  exact ⟨d,e,h2,h3⟩
 ·obtain ⟨d,_,_,_,f⟩:=g k h
  exact f
theorem MatV.bel {w w':World} {B:Nat} {v:Value} {m:Mat} (h:MatV w B v m) (hb:Below B w w'):MatV w' B v m:=by
 induction h with
 | mk V hl hn hc _ ih =>
  refine .mk V (hl.below hb) hn (fun k e=>?_) ih;obtain ⟨c,d,hB,hs⟩:=hc k e;exact ⟨c,d,hB,hs.below hb x50_⟩
theorem MatV.mono {w:World} {B c:Nat} {v:Value} {m:Mat} (h:MatV w B v m) (f:B≤c):MatV w c v m:=by
 induction h with
 | mk V hl hn hc _ ih =>
  refine .mk V (hl.mono f) hn (fun k g=>?_) ih;obtain ⟨d,e,j,hs⟩:=hc k g;exact ⟨d,e,y40_,hs⟩
theorem MatL.below {w w':World} {B:Nat} {v:Value} {i:List Mat} (h:MatL w B v i) (hb:Below B w w'):MatL w' B v i:=by
 obtain ⟨A,c,o,m,f⟩:=h;refine ⟨A,c,o,m,fun k g=>?_⟩;obtain ⟨d,u,e,hB,hs,j⟩:=f k g;exact ⟨d,u,e,hB,hs.below hb x50_,j.bel hb⟩
theorem MatL.mono {w:World} {B d:Nat} {v:Value} {i:List Mat} (h:MatL w B v i) (g:B≤d):MatL w d v i:=by
 obtain ⟨A,c,q,p,j⟩:=h;refine ⟨A,c,q,p,fun k m=>?_⟩;obtain ⟨e,u,f,hb,hs,o⟩:=j k m;exact ⟨e,u,f,y40_,hs,o.mono g⟩
theorem MatV.up {w w':World} {v:Value} {m:Mat} (h:MatV w w.heap.size v m) (hb:Below w.heap.size w w'):MatV w' w'.heap.size v m:=(h.bel hb).mono hb.size
theorem MatL.up {w w':World} {v:Value} {m:List Mat} (h:MatL w w.heap.size v m) (hb:Below w.heap.size w w'):MatL w' w'.heap.size v m:=(h.below hb).mono hb.size
theorem MatL.upA {w:World} {v:Value} {m:List Mat} (h:MatL w w.heap.size v m) (o:Obj):MatL (w.alloc o) (w.alloc o).heap.size v m:=h.up ((Below.refl _ w).alloc (Nat.le_refl _) o)
theorem MatL.nil_ (w:World) (B:Nat):MatL w B (.slice none 0 0) []:=⟨none,0,rfl,⟨Nat.le_refl _,q41_,fun _=>rfl⟩,fun k c=>absurd c k40_⟩
def eS (a:Addr):Value:=.iface 199 (.pointer (some a))
def formV (f:Form):Value:=.agg #[.bool f.fa,.bool f.fb,.int .i64 f.lists,.int .i64 f.least,.int .i64 f.most]
structure Env (E:Nat→Addr) (w:World):Prop where
 tab:Met w
 gt:w.cell? ⟨1,0,none⟩=some (.iface 165 (.agg #[.pointer (some ⟨9, 94,none⟩)]))
 g0:w.cell? ⟨0,0,none⟩=some (eS (E 0))
 g1:w.cell? ⟨2,0,none⟩=some (eS (E 1))
 g2:w.cell? ⟨3,0,none⟩=some (eS (E 2))
 g3:w.cell? ⟨5,0,none⟩=some (eS (E 3))
 g4:w.cell? ⟨6,0,none⟩=some (eS (E 4))
 f0:∀ t:Nat,t<10→w.cell? ⟨4,t * 5,none⟩=some (.bool (form t).fa)
 f1:∀ t:Nat,t<10→w.cell? ⟨4,t * 5+1,none⟩=some (.bool (form t).fb)
 f2:∀ t:Nat,t<10→w.cell? ⟨4,t * 5+2,none⟩=some (.int .i64 (form t).lists)
 f3:∀ t:Nat,t<10→w.cell? ⟨4,t * 5+3,none⟩=some (.int .i64 (form t).least)
 f4:∀ t:Nat,t<10→w.cell? ⟨4,t * 5+4,none⟩=some (.int .i64 (form t).most)
 nine:9≤w.heap.size
 blk:∀ k,k≤4→∃ cs t,w.heap[(E k).block]?=some (.cells cs t (0,0))
 ne:∀ k,1≤k→k≤4→E k≠E 0
theorem S8_ {w:World} {b:Nat} {o:Obj} (h:w.heap[b]?=some o):b<w.heap.size:=by
 rcases Nat.lt_or_ge b w.heap.size with c | c
 ·exact c
 ·rw [Array.getElem?_eq_none c] at h;cases h
theorem Env.up {E:Nat→Addr} {w w':World} (h:Env E w) (hb:Below w.heap.size w w'):Env E w':=by
 have e:=h.nine;have c:∀ {g o:Nat} {v:Value},g<9→w.cell? ⟨g,o,none⟩=some v→w'.cell? ⟨g,o,none⟩=some v:=fun {g o v} hg hv=>(hb.cell (p:=⟨g,o,none⟩) (by show g<_;omega)).trans hv;exact ⟨h.tab.up hb,c q41_ h.gt,c q41_ h.g0,c q41_ h.g1,c q41_ h.g2,c q41_ h.g3,c q41_ h.g4,
  fun t d=>c q41_ (h.f0 t d),fun t d=>c q41_ (h.f1 t d),fun t d=>c q41_ (h.f2 t d),fun t d=>c q41_ (h.f3 t d),fun t d=>c q41_ (h.f4 t d),
  Nat.le_trans e hb.size,fun k f=>by
   obtain ⟨cs,t,hc⟩:=h.blk k f;exact ⟨cs,t,(hb.block _ (S8_ hc)).trans hc⟩,h.ne⟩
open Go Go.RowKit
theorem Xh8 {k:Nat} {m:Mat} (h:ok (k+1) m=true):bad m=0:=by
 rw [ok,Bool.and_eq_true] at h;exact of_decide_eq_true h.1
theorem Vv2 {k:Nat} {m x:Mat} (h:ok (k+1) m=true) (c:x∈m.i):ok k x=true:=by
 rw [ok,Bool.and_eq_true] at h;exact List.all_eq_true.1 h.2 x c
theorem X1_ {m:Mat} (h:chk m=0):bad m=0:=Xh8 (chk_ok.1 h).2
theorem chk3 {m:Mat}:chk m=0∧dp 4 m≤3↔dp 3 m≤3∧ok 3 m=true:=by
 have d:dp 3 m=min 4 (dp 4 m):=Yh5 3 m;constructor
 ·rintro ⟨h,h3⟩
  have c:dp 3 m≤3:=y40_;exact ⟨c,by rw [← Yh6 c];exact (chk_ok.1 h).2⟩
 ·rintro ⟨h,h2⟩
  exact ⟨chk_ok.2 ⟨y40_,by rw [Yh6 h];exact h2⟩,y40_⟩
theorem G3_ {x:Int} (c:-1000000≤x) (h2:x≤1000000):IntKind.i64.wrap x=x:=y41_
theorem Vo8 {x:Int} (c:-9223372036854775808≤x) (h2:x≤9223372036854775807):IntKind.i64.wrap x=x:=y41_
theorem Zy8 {m:Mat} (h:m.t=7∨m.t=8∨m.t=9):fitsB m=decide (m.n=tog m.i):=y19_
theorem V3_ {m x:Mat} (h:chk m=0) (hx:x∈m.i):chk x=0∧dp 4 x<dp 4 m:=by
 obtain ⟨d,h2⟩:=chk_ok.1 h;have hb:=Xh8 h2;have hn:nest m.t:=y30_;have h3:dp 3 x+1≤dp 4 m:=Zq9 (k:=3) hn hx;obtain ⟨c,e⟩:=chk3.2 ⟨y40_,Vv2 h2 hx⟩;have f:dp 3 x=min 4 (dp 4 x):=Yh5 3 x;exact ⟨c,y40_⟩
theorem chk_n {m:Mat} (h:chk m=0):0≤m.n∧m.n≤64:=by
 obtain ⟨_,h2,_⟩:=V1_ (X1_ h);exact ⟨h2.1,h2.2.1⟩
theorem Vo9 (m:Mat) (h:chk m=0):tog [m]=m.n:=by
 obtain ⟨c,h2⟩:=chk_n h;show IntKind.i64.wrap (0+m.n)=_;rw [G3_ y40_ y40_];omega
theorem Vv3 (l:List Mat) (x:Mat):tog (l ++ [x])=IntKind.i64.wrap (tog l+x.n):=by
 unfold tog;rw [List.foldl_append];rfl
theorem Vh6 {l:List Mat} (h:∀ x∈l,0≤x.n∧x.n≤64) (hl:l.length≤10):0≤tog l∧tog l≤64 * l.length:=by
 have d:∀ (l:List Mat) (s:Int),(∀ x∈l,0≤x.n∧x.n≤64)→0≤s→s+64 * l.length≤1000000→s≤l.foldl (fun n x=>IntKind.i64.wrap (n+x.n)) s∧l.foldl (fun n x=>IntKind.i64.wrap (n+x.n)) s≤s+64 * l.length:=by
  intro l
  induction l with
  | nil=>intro s _ _ _;simp
  | cons x r ih =>
   intro s c e hs;have f:=c x k40_;rw [List.length_cons] at hs;rw [List.foldl_cons,G3_ y40_ y40_];have:=ih (s+x.n) (fun y hy=>c y y45_) y40_ y40_;rw [List.length_cons];omega
 have:=d l 0 h y40_ y40_;unfold tog;omega
open Go Go.RowKit
def stayL (m:Mat):List Int:=if m.t=6 then Z8_ (allL (inn m).n) (row m 0) else row m 0
def imgB (m:Mat) (s:List Int):Bool:=decide (m.t=5∨m.t=6) && decide (chk m=0) && subB s (allL m.n)
def imgM (m:Mat) (s:List Int):List Int:=s.map fun x=>(stayL m).getD x.toNat 0
def imgL (m:Mat) (s:List Int):List Int:=if imgB m s then imgM m s else []
theorem Xh9 {a b:List Int} (ha:IsSet a) (hb:IsSet b) (h:∀ x∈a,x∈b):b.length=(Z8_ b a).length+a.length:=by
 refine Zb7 (G8_ b a) ha hb (fun x c=>((X5_ hb ha x).1 c).2) fun x=>?_;rw [X5_ hb ha x];constructor
 ·intro c
  by_cases d:x∈a
  ·exact .inr d
  ·exact .inl ⟨c,d⟩
 ·rintro (c | c)
  ·exact c.1
  ·exact h x c
theorem subB_iff {a b:List Int}:subB a b=true↔IsSet a∧IsSet b∧∀ x∈a,x∈b:=by
 constructor
 ·intro h
  have c:=h;unfold subB at c;rw [Bool.and_eq_true,Bool.and_eq_true] at c;have ha:=mayB_iff.1 c.1.1;have hb:=mayB_iff.1 c.1.2;exact ⟨ha,hb,(Xd9 ha hb).1 h⟩
 ·rintro ⟨ha,hb,h⟩
  exact (Xd9 ha hb).2 h
theorem Yv7 {n:Int} (c:0≤n) (d:n≤64):((allL n).length:Int)=n:=by
 by_cases h:1≤n
 ·exact (C8_ n).2 h y40_
 ·have:n=0:=by omega
  subst this;rfl
theorem D2_ {m:Mat} (h:chk m=0) (c:m.t=5∨m.t=6):m.l.length=1∧m.i.length=1:=by
 have h3:=takes_iff.1 (V1_ (X1_ h)).2.2.1;rcases c with e | e
 ·exact q15_
 ·exact q15_
theorem Xi0 {m:Mat} (h:0<m.i.length):inn m∈m.i:=by
 unfold inn;rw [show m.i.getD 0 default=m.i[0] by simp [List.getD,h]];exact List.getElem_mem h
theorem W1_ {m:Mat} (h:chk m=0) (g:m.t=5∨m.t=6):((stayL m).length:Int)=m.n:=by
 have c:=(V1_ (X1_ h)).2.2.2;have hl:=D2_ h g;have f:=chk_n (V3_ h (Xi0 (m:=m) y40_)).1;have s:=chk_n h;rcases g with e | e
 ·have d:fitsB m=(partB m && decide (m.n=(row m 0).length)):=y23_
  rw [d,Bool.and_eq_true] at c;unfold stayL;rw [if_neg y40_];exact (of_decide_eq_true c.2).symm
 ·have d:fitsB m=(partB m && decide (IntKind.i64.wrap (m.n+(row m 0).length)=(inn m).n)):=y20_
  rw [d,Bool.and_eq_true] at c;obtain ⟨j,k,o⟩:=subB_iff.1 c.1;have r:=Xh9 j k o;have q:=Yv7 f.1 f.2;have p:=of_decide_eq_true c.2;unfold stayL;rw [if_pos e];rw [Vo8 y40_ y40_] at p;omega
theorem Yr5 {m:Mat} {s:List Int} (h:chk m=0) (hs:subB s (allL m.n)=true):∀ k,k<s.length→0≤s.getD k 0∧s.getD k 0<m.n:=by
 intro k c;have e:=chk_n h;obtain ⟨_,_,h3⟩:=subB_iff.1 hs;have d:=h3 (s.getD k 0) (by rw [show s.getD k 0=s[k] by simp [List.getD,c]];exact List.getElem_mem c);exact (F3_ e.1 y40_ _).1 d
theorem Zy9 (m:Mat) (s:List Int):(imgM m s).length=s.length:=by simp [imgM]
theorem Yr6 (m:Mat) (s:List Int) (k:Nat) (c:k<s.length):(imgM m s).getD k 0=(stayL m).getD (s.getD k 0).toNat 0:=by
 simp [imgM,List.getD,c]
def fillM (f:List Int) (n k:Nat):Array Value:=(ints (f.take k ++ List.replicate (n - k) 0)).toArray
theorem Zk9 {f:List Int} {n k:Nat} (c:f.length=n) (h:k≤n):(fillM f n k).size=n:=by
 simp [fillM,Y7_];omega
theorem Yv8 {f:List Int} {n k:Nat} (c:f.length=n) (h:k<n):(fillM f n k).setIfInBounds k (.int .i64 (f.getD k 0))=fillM f n (k+1):=by
 unfold fillM;rw [List.setIfInBounds_toArray];congr 1;have d:f.take (k+1)=f.take k ++ [f.getD k 0]:=by
  rw [List.take_succ_eq_append_getElem y40_];simp [List.getD,c,h]
 rw [d,V6_,V6_,V6_,List.append_assoc];have e:List.replicate (n - k) (0:Int)=0 :: List.replicate (n - (k+1)) 0:=by
  rw [show n - k=(n - (k+1))+1 from by omega,List.replicate_succ]
 have hl:(ints (f.take k)).length=k:=by rw [Y7_,List.length_take];omega
 rw [e,List.set_append_right _ _ y40_,hl,Nat.sub_self];rfl
theorem Zl0 (f:List Int) (n:Nat):fillM f n 0=filled n 0:=by simp [fillM,filled,upTo]
theorem Xi1 {f:List Int} {n:Nat} (c:f.length=n):fillM f n n=(ints f).toArray:=by
 unfold fillM;rw [Nat.sub_self,List.replicate_zero,List.append_nil,← c,List.take_length]
theorem Yv9 {w:World} {g n:Nat} {f:List Int} (c:f.length=n) (h:Blk w g 3 (fillM f n n)) (d:n≤maxLen):Row w w.heap.size (.slice (some ⟨g,0,none⟩) n n) f:=by
 rw [Xi1 c] at h;refine ⟨_,n,by rw [c],⟨y40_,d,fun e=>by cases e⟩,fun k hk=>⟨_,rfl,h.lt,?_⟩⟩;exact x20_
open Go Go.RowKit
theorem Zr7 {n:Int} {l:List Int} (h:okA n l=true):IsSet l∧∀ x∈l,0≤x∧x<n:=by
 unfold okA at h;rw [Bool.and_eq_true] at h;have hs:=mayB_iff.1 h.1;refine ⟨hs,fun x c=>⟨(hs.2 x c).1,?_⟩⟩;obtain ⟨i,d,rfl⟩:=List.mem_iff_getElem.1 c;rw [Bool.or_eq_true,decide_eq_true_iff,decide_eq_true_iff] at h;rcases h.2 with h2 | h2
 ·omega
 ·have hl:l.length - 1<l.length:=by omega
  rw [show l.getD (l.length - 1) 0=l[l.length - 1] by simp [List.getD,hl]] at h2;by_cases e:i=l.length - 1
  ·subst e
   exact h2
  ·have:=List.pairwise_iff_getElem.1 hs.1 i (l.length - 1) d hl y40_
   omega
theorem Yh7 {n:Int} {l:List Int} (c:0≤n) (e:n≤64) (hs:IsSet l) (h:∀ x∈l,0≤x∧x<n):subB l (allL n)=true :=
 subB_iff.2 ⟨hs,F2_ n,fun x d=>(F3_ c y40_ x).2 (h x d)⟩
theorem Vp0 {n:Int} {l:List Int} (d:0≤n) (c:n≤64) (hs:IsSet l) (h:∀ x∈l,0≤x∧x<n):n=(Z8_ (allL n) l).length+l.length:=by
 have e:=Xh9 hs (F2_ n) (subB_iff.1 (Yh7 d c hs h)).2.2;have h2:=Yv7 d c;omega
section
variable {m:Mat} {l:List Int} (hc:chk m=0) (h3:dp 4 m≤3) (hs:IsSet l) (hl:∀ x∈l,0≤x∧x<m.n)
include hc h3 hs hl
end
end Go.Proofs.YtigobiacbficaaaGreatDoor.Wp
