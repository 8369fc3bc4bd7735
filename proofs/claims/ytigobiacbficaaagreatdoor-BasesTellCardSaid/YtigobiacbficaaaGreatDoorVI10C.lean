/- Rows of matroids that the call itself makes by append, out of old ones and of literals. -/
import Derived.Test.YtigobiacbficaaaGreatDoorZU
import Derived.Test.YtigobiacbficaaaGreatDoorUSev
import Derived.Deep.Slices
import Derived.Laws.AppendOwnNone
import Derived.Test.YtigobiacbficaaaGreatDoorZW
import Derived.Test.YtigobiacbficaaaGreatDoorZA
import Derived.Lib.Hide
import Derived.Test.YtigobiacbficaaaGreatDoorZP
import Derived.Test.YtigobiacbficaaaGreatDoorVReach
import Derived.Test.YtigobiacbficaaaGreatDoorURMay
import Derived.Test.YtigobiacbficaaaGreatDoorZI
import Derived.Test.YtigobiacbficaaaGreatDoorZR
import Derived.Test.YtigobiacbficaaaGreatDoorZT
import Derived.Test.YtigobiacbficaaaGreatDoorX0A
import Derived.Test.YtigobiacbficaaaGreatDoorX0B
set_option maxHeartbeats 8000000
set_option maxRecDepth 100000
open Go.Lib (hid)
open Nat (le_refl)
namespace Go.Proofs.YtigobiacbficaaaGreatDoor.Wp
open Go Go.RowKit
theorem Xr5:(Tryz.prog.info? 25).map (fun i=>(i.zero,i.size,i.bytes))=some (some (.agg #[.int .i64 0,.int .i64 0,.int .i64 0,.int .i64 0,.slice none 0 0,.slice none 0 0]),6,80):=z40_
def flat6 (S:Nat→List Value) (n:Nat):List Value:=(List.range n).flatMap S
theorem Zx9 (S:Nat→List Value) (n:Nat):flat6 S (n+1)=flat6 S n ++ S n:=by
 unfold flat6;rw [List.range_succ,List.flatMap_append];simp
theorem P1_ {S:Nat→List Value} (c:∀ k,(S k).length=6):∀ n,(flat6 S n).length=n * 6
 | 0=>rfl
 | n+1=>by rw [Zx9,List.length_append,P1_ c n,c];omega
theorem Zu5 {S:Nat→List Value} (c:∀ k,(S k).length=6):∀ (n k j:Nat),k<n→j<6→(flat6 S n)[k * 6+j]?=(S k)[j]?
 | n+1,k,j,hk,hj=>by
  rw [Zx9];by_cases e:k=n
  ·subst e
   rw [List.getElem?_append_right (by rw [P1_ c];omega),P1_ c];congr 1;omega
  ·rw [List.getElem?_append_left (by rw [P1_ c];omega)]
   exact Zu5 c n k j y40_ hj
theorem Zz4 (a:Addr) (p j:Nat) (c:j≠0):(⟨(a.add p).block,(a.add p).off+j,none⟩:Addr)=a.add (p+j):=by
 unfold Addr.add;by_cases d:p=0
 ·subst d;simp [c]
 ·simp [d,c,Nat.add_assoc]
def SixM (w:World) (B:Nat) (S:Nat→List Value) (i:List Mat):Prop :=
 (∀ k,(S k).length=6)∧∀ k,k<i.length→∃ x0 x1 x2 x3 x4 x5,S k=[x0,x1,x2,x3,x4,x5]∧MatV w B (.agg #[x0,x1,x2,x3,x4,x5]) (i.getD k default)
theorem SixM.below {w w':World} {B:Nat} {S:Nat→List Value} {i:List Mat} (h:SixM w B S i) (hb:Below B w w'):SixM w' B S i:=⟨h.1,fun k d=>by
 obtain ⟨e,f,g,j,m,o,c,h2⟩:=h.2 k d;exact ⟨e,f,g,j,m,o,c,h2.bel hb⟩⟩
theorem SixM.more {w:World} {B:Nat} {S:Nat→List Value} {i:List Mat} (h:SixM w B S i) (c d e f g j:Value) (m:Mat) (s:MatV w B (.agg #[c,d,e,f,g,j]) m) :
  ∃ S',SixM w B S' (i ++ [m])∧flat6 S' (i.length+1)=flat6 S i.length ++ [c,d,e,f,g,j]:=by
 refine ⟨fun k=>if k<i.length then S k else [c,d,e,f,g,j],⟨fun k=>?_,fun k o=>?_⟩,?_⟩
 ·show (if k<i.length then S k else [c,d,e,f,g,j]).length=6
  split
  ·exact h.1 k
  ·rfl
 ·by_cases p:k<i.length
  ·obtain ⟨u,v,x,y,z,A,q,h2⟩:=h.2 k p
   refine ⟨u,v,x,y,z,A,(if_pos p).trans q,?_⟩;rw [show (i ++ [m]).getD k default=i.getD k default by simp [List.getD,List.getElem?_append_left p]];exact h2
  ·have r:k=i.length:=by rw [List.length_append] at o;simp at o;omega
   subst r;refine ⟨c,d,e,f,g,j,if_neg p,?_⟩;rw [show (i ++ [m]).getD i.length default=m by simp [List.getD]];exact s
 ·rw [Zx9]
  congr 1
  ·unfold flat6
   rw [List.flatMap_def,List.flatMap_def];congr 1;exact List.map_congr_left fun k o=>if_pos (List.mem_range.1 o)
  ·exact if_neg y40_
theorem Yl4 {w:World} {base B:Nat} {v:Value} {S:Nat→List Value} {i:List Mat} (h:w.ownsRow base 25 6 v i.length (flat6 S i.length)) (c:SixM w B S i) (p:B≤w.heap.size):MatL w w.heap.size v i:=by
 rcases h.2 with ⟨rfl,m⟩ | ⟨g,f,F,rfl,hb,G,q,r,_⟩
 ·have:i=[]:=List.eq_nil_of_length_eq_zero m
  subst this;exact MatL.nil_ _ _
 ·refine ⟨some ⟨g,0,none⟩,f,rfl,⟨q,r,fun e=>by cases e⟩,fun k d=>?_⟩
  obtain ⟨y,z,A,C,D,E,o,h2⟩:=c.2 k d;have hc:∀ j u,j<6→(S k)[j]?=some u→w.cell? ((⟨g,0,none⟩:Addr).add (k * 6+j))=some u:=fun j u s x =>
   h.cells (g:=g) rfl (k * 6+j) u (by rw [Zu5 c.1 _ _ _ d s];exact x)
  rw [o] at hc;refine ⟨⟨g,0,none⟩,_,rfl,(h.lt g rfl).2,⟨y,z,A,C,D,E,rfl,hc 0 _ q41_ rfl,?_,?_,?_,?_,?_⟩,h2.mono p⟩
  ·rw [Zz4 _ _ 1 q41_];exact hc 1 _ q41_ rfl
  ·rw [Zz4 _ _ 2 q41_];exact hc 2 _ q41_ rfl
  ·rw [Zz4 _ _ 3 q41_];exact hc 3 _ q41_ rfl
  ·rw [Zz4 _ _ 4 q41_];exact hc 4 _ q41_ rfl
  ·rw [Zz4 _ _ 5 q41_];exact hc 5 _ q41_ rfl
theorem Zz5 {w:World} {ops:Array Oper} {rest:List Oper} {o:Oper} {a:Act} {Q:Exit→Act→World→Prop} (g:o.guard=none) (s x:Operand)
  (p:o.op=.call { callee:=.builtin .append,args:=#[s,x],argTypes:=#[23, 23] })
  (base n k:Nat) (v:Value) (us ts:List Value) (A:Option Addr) (c:Nat) (hs:a.eval s=v) (q:a.eval x=.slice A k c) (f:w.ownsRow base 25 6 v n us) (hl:ts.length=k * 6)
  (z:∀ d,A=some d→∀ j u,ts[j]?=some u→w.cell? (d.add j)=some u) (C:∀ u∈ts,u.oneCell'=true) (B:A=none→k=0∧c=0) (H:n≤1048576) (G:k≤1048576) (hb:base≤w.heap.size)
  (h:∀ e w',w'.ownsRow base 25 6 e (n+k) (us ++ ts)→w.grownBy w' v.ownBlock→wpList Tryz.prog ops Q rest (a.put o.dst e) w'):wpList Tryz.prog ops Q (o :: rest) a w:=by
 obtain ⟨r,m,D,E,F⟩:=info_parts Xr5;cases A with
 | some d =>
  refine wpList_append_own w g s x _ p base 25 r (.agg #[.int .i64 0,.int .i64 0,.int .i64 0,.int .i64 0,.slice none 0 0,.slice none 0 0]) 6 80 z40_ m D E F rfl q41_ v n us hs f d k c ts q hl (z d rfl) C z41_ y40_ hb ?_;intro e w' y h2 _;exact h e w' y h2
 | none =>
  obtain ⟨rfl,rfl⟩:=B rfl;have:ts=[]:=List.eq_nil_of_length_eq_zero y40_;subst this;refine wpList_append_own_none g s x _ p base 25 r 6 z40_ m v n us hs f q ?_;exact h v w (by rw [List.append_nil];exact f) ⟨rfl,rfl,rfl,le_refl _,fun _ _ _=>rfl⟩
open Go Go.RowKit
theorem Yl5 {w:World} {B:Nat} {v:Value} {zs:List Int} {p:Addr} (h:Row w B v zs) (m:∀ g,v.ownBlock=some g→g≠p.block) (u:Value):Row (w.setCell p u) B v zs:=by
 obtain ⟨A,c,rfl,j,e⟩:=h;refine ⟨A,c,rfl,j,fun k f=>?_⟩;obtain ⟨d,rfl,hb,hc⟩:=e k f;refine ⟨d,rfl,hb,?_⟩;rw [World.cell?_of_block (w:=w) (by rw [Z2_];exact Below.heap_setCell _ _ _ _ (m d.block rfl))];exact hc
structure AdjR (w:World) (G:Nat) (vs:List Value) (pp:List (List Int)):Prop where
 blk:Blk w G 28 vs.toArray
 len:vs.length=pp.length
 row:∀ k v,vs[k]?=some v→Row w w.heap.size v (pp.getD k [])∧∀ g,v.ownBlock=some g→G<g
section
variable {w w':World} {G i:Nat} {vs:List Value} {pp:List (List Int)}
theorem AdjR.up (h:AdjR w G vs pp) (hb:Below w.heap.size w w'):AdjR w' G vs pp:=⟨h.blk.below hb h.blk.lt,h.len,fun k v c=>⟨(h.row k v c).1.up hb,(h.row k v c).2⟩⟩
theorem AdjR.put {u:Value} {q:List Int} (h:AdjR w G vs pp) (m:Row w w.heap.size u q) (j:∀ g,u.ownBlock=some g→G<g):AdjR (w.setCell ⟨G,i,none⟩ u) G (vs.set i u) (pp.set i q):=by
 refine ⟨?_,by rw [List.length_set,List.length_set,h.len],fun k v c=>?_⟩
 ·have:=h.blk.set_ i u
  simpa using this
 ·rw [List.getElem?_set] at c
  have o:(w.setCell ⟨G,i,none⟩ u).heap.size=w.heap.size:=k40_;rw [o];split at c
  ·rename_i e
   subst e;split at c
   ·rename_i hlt
    cases c;refine ⟨?_,j⟩;rw [show (pp.set i q).getD i []=q by rw [List.getD_eq_getElem?_getD,List.getElem?_set_self (by rw [← h.len];exact hlt)];rfl];exact Yl5 m (fun g d e=>by have:=j g d;have e:g=G:=e;omega) u
   ·cases c
  ·rename_i e
   have f:=h.row k v c;refine ⟨?_,f.2⟩;rw [show (pp.set i q).getD k []=pp.getD k [] by rw [List.getD_eq_getElem?_getD,List.getElem?_set_ne e,← List.getD_eq_getElem?_getD]];exact Yl5 f.1 (fun g d e=>by have:=f.2 g d;have e:g=G:=e;omega) u
theorem AdjR.rows (h:AdjR w G vs pp) (hl:pp.length≤4096):Rows2 w w.heap.size (.slice (some ⟨G,0,none⟩) pp.length pp.length) pp:=by
 refine ⟨_,pp.length,rfl,⟨le_refl _,by unfold maxLen;omega,fun e=>by cases e⟩,fun k d=>?_⟩;have c:k<vs.length:=by rw [h.len];exact d
 refine ⟨⟨G,0,none⟩,vs[k],rfl,h.blk.lt,?_,?_⟩
 ·rw [show (⟨G,0,none⟩:Addr).add k=⟨G,k,none⟩ by unfold Addr.add;split<;>simp_all,h.blk.cell]
  simp [c]
 ·exact (h.row k _ (List.getElem?_eq_getElem c)).1
theorem AdjR.nth (h:AdjR w G vs pp) (e:i<pp.length):∃ (A:Option Addr) (c:Nat),w.cell? ⟨G,i,none⟩=some (.slice A (pp.getD i []).length c)∧w.frozen? ⟨G,i,none⟩=false:=by
 have d:i<vs.length:=by rw [h.len];exact e
 obtain ⟨A,c,f,_⟩:=(h.row i _ (List.getElem?_eq_getElem d)).1;refine ⟨A,c,?_,h.blk.frozen i⟩;rw [h.blk.cell,← f];simp [d]
theorem AdjR.made {n:Nat} (hb:Blk w G 28 (madeCells #[.slice none 0 0] n)):AdjR w G (List.replicate n (.slice none 0 0)) (List.replicate n []):=by
 have e:(madeCells #[Value.slice none 0 0] n)=(List.replicate n (Value.slice none 0 0)).toArray:=by
  unfold madeCells;apply Array.ext';refine List.ext_getElem? fun j=>?_;by_cases d:j<n
  ·simp [d,Nat.mod_one]
  ·simp [d]
 refine ⟨by rw [← e];exact hb,by rw [List.length_replicate,List.length_replicate],fun k v c=>?_⟩;rw [List.getElem?_replicate] at c;split at c
 ·cases c
  refine ⟨?_,fun g f=>by cases f⟩;rw [List.getD_eq_getElem?_getD,List.getElem?_replicate];split<;>exact Row.nil_ _ _
 ·cases c
end
end Go.Proofs.YtigobiacbficaaaGreatDoor.Wp
namespace Go.Proofs.YtigobiacbficaaaGreatDoor.Wp.R
open K (updI nodup_le)
structure Dig (adj:List (List Int)):Prop where
 up:∀ x,(adj.getD x []).Pairwise (·<·)
 pt:∀ x,∀ y∈adj.getD x [],0≤y∧y<(adj.length:Int)
structure Pts (n:Nat) (l:List Int):Prop where
 up:l.Pairwise (·<·)
 pt:∀ y∈l,0≤y∧y<(n:Int)
def cAt (come:List Int) (j:Nat):Int:=come.getD j 0
def Y5_ (adj:List (List Int)) (come:List Int) (j:Nat):List Int:=adj.getD (cAt come j).toNat []
theorem M5_ {come:List Int} {q:Int} {j:Nat} (h:j<come.length):cAt (come ++ [q]) j=cAt come j:=by
 unfold cAt;rw [List.getD_eq_getElem?_getD,List.getElem?_append_left h,← List.getD_eq_getElem?_getD]
theorem Yl6 {come:List Int} {q:Int}:cAt (come ++ [q]) come.length=q:=by
 unfold cAt;rw [List.getD_eq_getElem?_getD,List.getElem?_append_right (le_refl _)];simp
theorem F5_ {come:List Int} {j:Nat} (h:j<come.length):cAt come j∈come:=by
 unfold cAt;rw [show come.getD j 0=come[j] by simp [List.getD,h]];exact List.getElem_mem h
theorem Zi0 {come:List Int} {x:Int} (h:x∈come):∃ j,j<come.length∧cAt come j=x:=by
 obtain ⟨j,c,e⟩:=List.mem_iff_getElem.1 h;exact ⟨j,c,by unfold cAt;rw [← e];simp [List.getD,c]⟩
structure Bfs (adj:List (List Int)) (src:List Int) (come:List Int) (ah:Nat→Int) (par:Nat→Nat) (i k:Nat):Prop where
 nodup:come.Nodup
 pt:∀ x∈come,0≤x∧x<(adj.length:Int)
 new:∀ x:Nat,x<adj.length→(ah x=-1↔(x:Int)∉come)
 pre:∃ rest,come=src ++ rest
 start:∀ j,j<src.length→ah (cAt come j).toNat=-2
 old:∀ j,src.length≤j→j<come.length→par j<j∧par j≤i∧ah (cAt come j).toNat=cAt come (par j)∧cAt come j∈Y5_ adj come (par j)∧(par j=i→cAt come j∈(Y5_ adj come i).take k)
 first:∀ j,src.length≤j→j<come.length→∀ m,m<par j→cAt come j∉Y5_ adj come m
 mono:∀ j l,src.length≤j→j<l→l<come.length→par j≤par l∧(par j=par l→cAt come j<cAt come l)
 closed:∀ m,m<i→m<come.length→∀ x∈Y5_ adj come m,x∈come
 some_:i<come.length→∀ x∈(Y5_ adj come i).take k,x∈come
section
variable {adj:List (List Int)} {src come:List Int} {ah:Nat→Int} {par:Nat→Nat} {i k:Nat}
theorem Xr6 (hs:Pts adj.length src) (ha:∀ x:Nat,ah x=if (x:Int)∈src then -2 else -1):Bfs adj src src ah (fun _=>0) 0 0:=by
 refine ⟨hs.up.imp fun k e=>by omega,hs.pt,fun x _=>?_,⟨[],k40_⟩,fun j f=>?_,fun j c h2=>by omega,fun j c h2=>by omega,fun j l c h2 h3=>by omega,fun m d=>by omega,fun _ x g=>by simp at g⟩
 ·rw [ha]
  split
  ·rename_i h
   exact ⟨fun e=>by omega,fun e=>absurd h e⟩
  ·rename_i h
   exact ⟨fun _=>h,fun _=>rfl⟩
 ·have d:=F5_ f
  have:=hs.pt _ d;rw [ha,if_pos]
  rwa [Int.toNat_of_nonneg this.1]
theorem Bfs.skip (h:Bfs adj src come ah par i k) (p:i<come.length) (q:Nat) (g:(Y5_ adj come i)[k]?=some (q:Int)) (w:q<adj.length) (ha:ah q≠-1):Bfs adj src come ah par i (k+1):=by
 have s:k<(Y5_ adj come i).length:=(List.getElem?_eq_some_iff.1 g).1;have m:(Y5_ adj come i).take (k+1)=(Y5_ adj come i).take k ++ [(q:Int)]:=by
  rw [List.take_succ_eq_append_getElem s,(List.getElem?_eq_some_iff.1 g).2]
 have r:(q:Int)∈come:=Classical.byContradiction fun u=>ha ((h.new q w).2 u);refine ⟨h.nodup,h.pt,h.new,h.pre,h.start,fun j o h2=>?_,h.first,h.mono,h.closed,fun _ x f=>?_⟩
 ·obtain ⟨a,b,c,d,e⟩:=h.old j o h2
  exact ⟨a,b,c,d,fun v=>by rw [m];exact List.mem_append.2 (.inl (e v))⟩
 ·rw [m,List.mem_append,List.mem_singleton] at f
  rcases f with f | f
  ·exact h.some_ p x f
  ·rw [f];exact r
theorem M6_ {come:List Int} {q:Int} {m:Nat} (h:m<come.length):Y5_ adj (come ++ [q]) m=Y5_ adj come m:=by unfold Y5_;rw [M5_ h]
theorem Bfs.visit (hd:Dig adj) (h:Bfs adj src come ah par i k) (r:i<come.length) (q:Nat) (s:(Y5_ adj come i)[k]?=some (q:Int)) (H:q<adj.length) (ha:ah q=-1) :
  Bfs adj src (come ++ [(q:Int)]) (updI ah q (cAt come i)) (fun j=>if j=come.length then i else par j) i (k+1):=by
 have A:k<(Y5_ adj come i).length:=(List.getElem?_eq_some_iff.1 s).1;have y:(Y5_ adj come i).take (k+1)=(Y5_ adj come i).take k ++ [(q:Int)]:=by
  rw [List.take_succ_eq_append_getElem A,(List.getElem?_eq_some_iff.1 s).2]
 have v:(q:Int)∉come:=(h.new q H).1 ha;have G:(q:Int)∈Y5_ adj come i:=List.mem_iff_getElem?.2 ⟨k,s⟩;have F:∀ x∈come,x.toNat≠q:=fun x f e=>v (by
  have:=(h.pt x f).1;rw [show (q:Int)=x by omega];exact f)
 have z:∀ x∈come,updI ah q (cAt come i) x.toNat=ah x.toNat:=fun x f=>if_neg (F x f);obtain ⟨rest,D⟩:=h.pre;have J:src.length≤come.length:=by rw [D,List.length_append];omega
 have u:∀ {j},j<(come ++ [(q:Int)]).length→j<come.length∨j=come.length:=fun {j} g=>by rw [List.length_append] at g;simp at g;omega
 refine ⟨?_,fun x f=>?_,fun x f=>?_,⟨rest ++ [(q:Int)],by rw [D,List.append_assoc]⟩,fun j g=>?_,fun j p h2=>?_,fun j p h2 m o=>?_,fun j l p h2 h3=>?_,fun m o I x f=>?_,fun _ x f=>?_⟩
 ·rw [List.nodup_append]
  refine ⟨h.nodup,k40_,fun a ha b hb e=>v ?_⟩;rw [List.mem_singleton] at hb;rw [← hb,← e];exact ha
 ·rw [List.mem_append,List.mem_singleton] at f
  rcases f with f | f
  ·exact h.pt x f
  ·rw [f];omega
 ·rw [List.mem_append,List.mem_singleton,not_or]
  by_cases e:x=q
  ·subst e
   rw [show updI ah x (cAt come i) x=cAt come i from if_pos rfl];have:=(h.pt _ (F5_ r)).1;exact ⟨fun hc=>by omega,fun hc=>absurd rfl hc.2⟩
  ·rw [show updI ah q (cAt come i) x=ah x from if_neg e,h.new x f]
   exact ⟨fun hc=>⟨hc,y40_⟩,fun hc=>hc.1⟩
 ·rw [M5_ y40_,z _ (F5_ y40_)]
  exact h.start j g
 ·rcases u h2 with g | g
  ·rw [if_neg y40_,M5_ g,z _ (F5_ g)]
   obtain ⟨a,b,c,d,e⟩:=h.old j p g;rw [M5_ y40_,M6_ y40_];refine ⟨a,b,c,d,fun w=>?_⟩;rw [M6_ r,y];exact List.mem_append.2 (.inl (e w))
  ·subst g
   rw [if_pos rfl,Yl6,M5_ r,M6_ r];refine ⟨r,le_refl _,?_,G,fun _=>?_⟩
   ·rw [Int.toNat_natCast]
    exact if_pos rfl
   ·rw [y]
    exact List.mem_append.2 (.inr k40_)
 ·rcases u h2 with g | g
  ·rw [if_neg y40_] at o
   have:=(h.old j p g).1;rw [M5_ g,M6_ y40_];exact h.first j p g m o
  ·subst g
   rw [if_pos rfl] at o;rw [Yl6,M6_ y40_];exact fun f=>v (h.closed m o y40_ _ f)
 ·rcases u h3 with hl | hl
  ·rw [if_neg y40_,if_neg y40_,M5_ y40_,M5_ hl]
   exact h.mono j l p h2 hl
  ·subst hl
   rw [if_neg y40_,if_pos rfl,M5_ h2,Yl6];obtain ⟨_,b,_,_,e⟩:=h.old j p h2;refine ⟨b,fun w=>?_⟩;have o:=e w;obtain ⟨m,E,B⟩:=List.mem_iff_getElem.1 o;rw [List.length_take] at E;rw [List.getElem_take] at B;have:=List.pairwise_iff_getElem.1 (hd.up (cAt come i).toNat) m k (by show m<(Y5_ adj come i).length;omega) A y40_;rw [← B,← (List.getElem?_eq_some_iff.1 s).2];exact this
 ·have C:m<come.length:=by omega
  rw [M6_ C] at f;exact List.mem_append.2 (.inl (h.closed m o C x f))
 ·rw [M6_ r,y,List.mem_append,List.mem_singleton] at f
  rcases f with f | f
  ·exact List.mem_append.2 (.inl (h.some_ r x f))
  ·rw [f];exact List.mem_append.2 (.inr k40_)
theorem Bfs.next (h:Bfs adj src come ah par i k) (o:(Y5_ adj come i).length≤k):Bfs adj src come ah par (i+1) 0:=by
 refine ⟨h.nodup,h.pt,h.new,h.pre,h.start,fun j h1 h2=>?_,h.first,h.mono,fun m p g x f=>?_,fun _ x f=>by simp at f⟩
 ·exact q26_
 ·by_cases e:m=i
  ·subst e
   exact h.some_ g x (by rw [List.take_of_length_le o];exact f)
  ·exact h.closed m y40_ g x f
theorem Bfs.len (h:Bfs adj src come ah par i k):come.length≤adj.length:=by
 have:=nodup_le (b:=(List.range adj.length).map Int.ofNat) h.nodup fun x c=>by
  have:=h.pt x c;exact x15_
 simpa using this
def Done (adj:List (List Int)) (src come:List Int) (ah:Nat→Int) (par:Nat→Nat):Prop:=Bfs adj src come ah par come.length 0
theorem Done.closed (h:Done adj src come ah par) {x y:Int} (d:x∈come) (e:y∈adj.getD x.toNat []):y∈come:=by
 obtain ⟨j,c,rfl⟩:=Zi0 d;exact Bfs.closed h j c c y e
theorem Done.has (h:Done adj src come ah par) {x:Int} (c:x∈src):x∈come:=by
 obtain ⟨rest,e⟩:=Bfs.pre h;rw [e];exact List.mem_append.2 (.inl c)
theorem Done.least (h:Done adj src come ah par) (S:Int→Prop) (f:∀ x∈src,S x) (h2:∀ x y,x∈come→S x→y∈adj.getD x.toNat []→S y):∀ x∈come,S x:=by
 have o:∀ m j,j<m→j<come.length→S (cAt come j):=by
  intro m
  induction m with
  | zero=>intro j c;omega
  | succ m ih =>
   intro j c g;obtain ⟨rest,e⟩:=Bfs.pre h;by_cases hs:j<src.length
   ·refine f _ ?_
    have:cAt come j=cAt src j:=by
     unfold cAt;rw [e,List.getD_eq_getElem?_getD,List.getElem?_append_left hs,← List.getD_eq_getElem?_getD]
    rw [this];exact F5_ hs
   ·obtain ⟨a,_,_,d,_⟩:=Bfs.old h j y40_ g
    exact h2 _ _ (F5_ y40_) (ih _ y40_ y40_) d
 intro x k;obtain ⟨j,c,rfl⟩:=Zi0 k;exact o (j+1) j y40_ c
inductive Way (come:List Int) (par:Nat→Nat) (ns:Nat):Nat→List Int→Prop
 | start (j:Nat):j<ns→Way come par ns j [cAt come j]
 | next (j:Nat) (l:List Int):ns≤j→Way come par ns (par j) l→Way come par ns j (l ++ [cAt come j])
theorem Jq1 (h:Done adj src come ah par):∀ j,j<come.length→∃ l,Way come par src.length j l:=by
 have e:∀ m j,j<m→j<come.length→∃ l,Way come par src.length j l:=by
  intro m
  induction m with
  | zero=>intro j c;omega
  | succ m ih =>
   intro j c d;by_cases hs:j<src.length
   ·exact ⟨_,.start j hs⟩
   ·obtain ⟨a,_⟩:=Bfs.old h j y40_ d
    obtain ⟨l,hl⟩:=ih (par j) y40_ y40_;exact ⟨_,.next j l y40_ hl⟩
 exact fun j c=>e (j+1) j y40_ c
end
def Zn5 (p:Int) (st:List Int × (Nat→Int)) (q:Int):List Int × (Nat→Int):=if st.2 q.toNat=-1 then (st.1 ++ [q],updI st.2 q.toNat p) else st
def Q9_ (adj:List (List Int)) (st:List Int × (Nat→Int)) (i k:Nat):List Int × (Nat→Int):=((Y5_ adj st.1 i).take k).foldl (Zn5 (cAt st.1 i)) st
def stepS (adj:List (List Int)) (st:List Int × (Nat→Int)) (i:Nat):List Int × (Nat→Int):=if i<st.1.length then Q9_ adj st i (Y5_ adj st.1 i).length else st
def Jq2 (src:List Int):List Int × (Nat→Int):=(src,fun x=>if (x:Int)∈src then -2 else -1)
def runS (adj:List (List Int)) (src:List Int):Nat→List Int × (Nat→Int)
 | 0=>Jq2 src
 | i+1=>stepS adj (runS adj src i) i
def finS (adj:List (List Int)) (src:List Int):List Int × (Nat→Int):=runS adj src adj.length
section
variable {adj:List (List Int)} {src:List Int} {st:List Int × (Nat→Int)} {i k:Nat}
theorem Xa3:Q9_ adj st i 0=st:=rfl
theorem Zn6 (h:k<(Y5_ adj st.1 i).length):Q9_ adj st i (k+1)=Zn5 (cAt st.1 i) (Q9_ adj st i k) ((Y5_ adj st.1 i).getD k 0):=by
 unfold Q9_;rw [List.take_succ_eq_append_getElem h,List.foldl_append];rw [show (Y5_ adj st.1 i).getD k 0=(Y5_ adj st.1 i)[k] by simp [List.getD,h]];rfl
theorem Zi1 (hd:Dig adj) (par:Nat→Nat) (hi:i<st.1.length) (h:Bfs adj src st.1 st.2 par i 0):∀ k,k≤(Y5_ adj st.1 i).length→(∃ rest,(Q9_ adj st i k).1=st.1 ++ rest)∧∃ d,Bfs adj src (Q9_ adj st i k).1 (Q9_ adj st i k).2 d i k
 | 0,_=>⟨⟨[],by simp [Xa3]⟩,par,h⟩
 | k+1,hk=>by
  obtain ⟨⟨rest,hr⟩,d,hb⟩:=Zi1 hd par hi h k y40_;have c:k<(Y5_ adj st.1 i).length:=y40_;have f:i<(Q9_ adj st i k).1.length:=by rw [hr,List.length_append];omega
  have hc:cAt (Q9_ adj st i k).1 i=cAt st.1 i:=z24_;have ha:Y5_ adj (Q9_ adj st i k).1 i=Y5_ adj st.1 i:=by unfold Y5_;rw [hc]
  have m:(Y5_ adj st.1 i)[k]∈Y5_ adj st.1 i:=List.getElem_mem c;have o:=hd.pt _ _ m;obtain ⟨q,g⟩:∃ q:Nat,(Y5_ adj st.1 i)[k]=(q:Int):=⟨(Y5_ adj st.1 i)[k].toNat,y40_⟩;have j:(Y5_ adj (Q9_ adj st i k).1 i)[k]?=some (q:Int):=by rw [ha,List.getElem?_eq_getElem c,g]
  rw [Zn6 c,show (Y5_ adj st.1 i).getD k 0=(q:Int) by rw [← g];simp [List.getD,c]];unfold Zn5;rw [Int.toNat_natCast];split
  ·rename_i e
   have:=hb.visit hd f q j y40_ e;rw [hc] at this;exact ⟨⟨rest ++ [(q:Int)],by rw [hr,List.append_assoc]⟩,_,this⟩
  ·rename_i e
   exact ⟨⟨rest,hr⟩,d,hb.skip f q j y40_ e⟩
theorem Ve4 (hd:Dig adj) (par:Nat→Nat) (h:Bfs adj src st.1 st.2 par i 0):∃ f,Bfs adj src (stepS adj st i).1 (stepS adj st i).2 f (i+1) 0:=by
 unfold stepS;split
 ·rename_i hi
  obtain ⟨⟨rest,hr⟩,f,hb⟩:=Zi1 hd par hi h (Y5_ adj st.1 i).length (le_refl _);refine ⟨f,hb.next ?_⟩;have hc:cAt (Q9_ adj st i (Y5_ adj st.1 i).length).1 i=cAt st.1 i:=z24_;unfold Y5_ at hb ⊢;rw [show adj.getD (cAt st.1 i).toNat []=Y5_ adj st.1 i from rfl] at *
  rw [hc];exact le_refl _
 ·rename_i hi
  refine ⟨par,h.nodup,h.pt,h.new,h.pre,h.start,fun j h1 h2=>?_,h.first,h.mono,fun m k g=>?_,fun h1=>by omega⟩
  ·exact q26_
  ·exact h.closed m y40_ g
theorem Yl7 (hd:Dig adj) (hs:Pts adj.length src):∀ i,∃ par,Bfs adj src (runS adj src i).1 (runS adj src i).2 par i 0
 | 0=>⟨fun _=>0,Xr6 hs fun _=>rfl⟩
 | i+1=>by
  obtain ⟨par,h⟩:=Yl7 hd hs i;exact Ve4 hd par h
theorem fin_done (hd:Dig adj) (hs:Pts adj.length src):∃ par,Done adj src (finS adj src).1 (finS adj src).2 par:=by
 obtain ⟨par,h⟩:=Yl7 hd hs adj.length;have hl:=h.len;refine ⟨par,h.nodup,h.pt,h.new,h.pre,h.start,fun j f h2=>?_,h.first,h.mono,fun m g k=>h.closed m (by unfold finS at g;omega) k,fun f=>by omega⟩;obtain ⟨a,b,c,d,e⟩:=h.old j f h2;unfold finS at *
 exact ⟨a,y40_,c,d,fun o=>by omega⟩
theorem Yu9 (hl:(runS adj src i).1.length≤i):∀ m,i≤m→runS adj src m=runS adj src i
 | 0,h=>by
  have:i=0:=y40_;rw [this]
 | m+1,h=>by
  by_cases e:i=m+1
  ·rw [e]
  ·have c:=Yu9 hl m y40_
   show stepS adj (runS adj src m) m=_;rw [c];unfold stepS;rw [if_neg y40_]
end
section
variable {adj:List (List Int)} {src come:List Int} {ah:Nat→Int} {par:Nat→Nat}
theorem Xr7 (h:Done adj src come ah par) {j:Nat} (c:j<src.length):cAt come j∈src:=by
 obtain ⟨rest,e⟩:=Bfs.pre h;have:cAt come j=cAt src j:=by
  unfold cAt;rw [e,List.getD_eq_getElem?_getD,List.getElem?_append_left c,← List.getD_eq_getElem?_getD]
 rw [this];exact F5_ c
structure WayF (adj:List (List Int)) (src come:List Int) (j:Nat) (l:List Int):Prop where
 pos:0<l.length
 last:l.getD (l.length - 1) 0=cAt come j
 head:l.getD 0 0∈src
 each:∀ i,i<l.length→∃ m,m≤j∧l.getD i 0=cAt come m∧(i+1<l.length→m<j)∧(0<i→src.length≤m)
 arc:∀ i,i+1<l.length→l.getD (i+1) 0∈adj.getD (l.getD i 0).toNat []
end
inductive Lev (par:Nat→Nat) (ns:Nat):Nat→Nat→Prop
 | z (j:Nat):j<ns→Lev par ns j 0
 | s (j k:Nat):ns≤j→Lev par ns (par j) k→Lev par ns j (k+1)
section
variable {adj:List (List Int)} {src dst come:List Int} {ah:Nat→Int} {par:Nat→Nat}
theorem lev_ex (h:Done adj src come ah par):∀ j,j<come.length→∃ k,Lev par src.length j k:=by
 have f:∀ m j,j<m→j<come.length→∃ k,Lev par src.length j k:=by
  intro m
  induction m with
  | zero=>intro j c;omega
  | succ m ih =>
   intro j c d;by_cases hs:j<src.length
   ·exact ⟨0,.z j hs⟩
   ·obtain ⟨a,_⟩:=Bfs.old h j y40_ d
    obtain ⟨k,e⟩:=ih (par j) y40_ y40_;exact ⟨k+1,.s j k y40_ e⟩
 exact fun j c=>f (j+1) j y40_ c
theorem Zb1 (h:Done adj src come ah par):∀ {i a:Nat},Lev par src.length i a→∀ {j b:Nat},Lev par src.length j b→i≤j→j<come.length→a≤b:=by
 intro i a d
 induction d with
 | z=>intros;omega
 | s i k hs hk ih =>
  intro j b f m c;cases f with
  | z _ hz=>omega
  | s _ b' hs' hb =>
   obtain ⟨o,_⟩:=Bfs.old h j hs' c;have g:par i≤par j:=by
    by_cases e:i=j
    ·rw [e];exact le_refl _
    ·exact ((Bfs.mono h i j hs y40_ c).1)
   have:=ih hb g y40_;omega
theorem Yw0 (h:Done adj src come ah par) {i a b:Nat} (d:i<come.length) (c:Lev par src.length i a) (h2:Lev par src.length i b):a=b :=
 Nat.le_antisymm (Zb1 h c h2 (le_refl _) d) (Zb1 h h2 c (le_refl _) d)
theorem Yl8 (h:Done adj src come ah par) {i a:Nat} (d:i<come.length) (ha:Lev par src.length i a) {y:Int} (g:y∈adj.getD (cAt come i).toNat []) :
  ∃ m b,m<come.length∧cAt come m=y∧Lev par src.length m b∧b≤a+1∧(src.length≤m→par m≤i):=by
 obtain ⟨m,c,e⟩:=Zi0 (h.closed (F5_ d) g);obtain ⟨b,hb⟩:=lev_ex h m c;have f:src.length≤m→par m≤i:=fun hs=>by
  refine Nat.le_of_not_lt fun j=>?_;exact Bfs.first h m hs c i j (by rw [e];exact g)
 refine ⟨m,b,c,e,hb,?_,f⟩;cases hb with
 | z=>omega
 | s _ b' hs hb' =>
  have:=Zb1 h hb' ha (f hs) d;omega
theorem Zu6 (h:Done adj src come ah par) {j D:Nat} (f:∀ i,i<j→cAt come i∉dst) (d:Lev par src.length j D):∀ (n i a:Nat),i<come.length→Lev par src.length i a→Near adj dst n (cAt come i)→D≤a+n
 | 0,i,a,hi,ha,c=>by
  have g:j≤i:=Nat.le_of_not_lt fun k=>f i k c;exact Zb1 h d ha g hi
 | n+1,i,a,hi,ha,c=>by
  rcases c with c | ⟨y,p,c⟩
  ·have:=Zu6 h f d n i a hi ha c
   omega
  ·obtain ⟨m,b,o,e,hb,q,_⟩:=Yl8 h hi ha p
   rw [← e] at c;have:=Zu6 h f d n m b o hb c;omega
theorem Yc3 (h:Done adj src come ah par) (hs:src.Pairwise (·<·)) {i m:Nat} (c:i<src.length) (f:m<src.length) (j:cAt come m<cAt come i):m<i:=by
 obtain ⟨rest,e⟩:=Bfs.pre h;have g:∀ k,k<src.length→∀ d:k<src.length,cAt come k=src[k]:=fun k d _=>by
  unfold cAt;rw [e,List.getD_eq_getElem?_getD,List.getElem?_append_left d,List.getElem?_eq_getElem d];rfl
 rw [g m f f,g i c c] at j;refine Nat.lt_of_not_le fun o=>?_;by_cases e:i=m
 ·subst e;omega
 ·have:=List.pairwise_iff_getElem.1 hs i m c f y40_
  omega
def NoE (adj:List (List Int)) (dst come:List Int) (par:Nat→Nat) (ns i k n:Nat):Prop:=∀ m,m<i→Lev par ns m k→¬ Near adj dst n (cAt come m)
theorem Xa4 (h:Done adj src come ah par) (hs:src.Pairwise (·<·)) {j D:Nat} (T:∀ i,i<j→cAt come i∉dst) (Q:Lev par src.length j D) {i:Nat} {l:List Int} (I:Way come par src.length i l) :
  i<come.length→∀ k n tail,Lev par src.length i k→k+n=D→Near adj dst n (cAt come i)→NoE adj dst come par src.length i k n→((n=0∧tail=[])∨∃ f,n=f+1∧Greedy adj dst (adj.getD (cAt come i).toNat []) f tail)→Greedy adj dst src D (l ++ tail):=by
 have g:=Zu6 h T Q
 induction I with
 | start i his =>
  intro v k n tail w K d hE C;have R:k=0:=Yw0 h v w (.z i his);subst R;have hsm:∀ y∈src,∃ m,m<src.length∧m<come.length∧cAt come m=y:=fun y hy=>by
   obtain ⟨rest,e⟩:=Bfs.pre h;obtain ⟨m,hm,J⟩:=Zi0 hy;refine ⟨m,hm,by rw [e,List.length_append];omega,?_⟩;rw [← J];unfold cAt;rw [e,List.getD_eq_getElem?_getD,List.getElem?_append_left hm,← List.getD_eq_getElem?_getD]
  rcases C with ⟨rfl,rfl⟩ | ⟨f,rfl,u⟩
  ·have:D=0:=by omega
   subst this;refine .stop _ _ (Xr7 h his) d fun y hy hlt=>?_;exact j28_
  ·have:D=f+1:=by omega
   subst this;refine .step _ _ _ _ (Xr7 h his) d (fun y hy hc=>?_) (fun y hy hlt=>?_) u
   ·obtain ⟨m,hm,S,rfl⟩:=hsm y hy
    have:=g _ _ _ S (.z m hm) hc;omega
   ·exact j28_
 | next i l hsi I ih =>
  intro v k n tail w K d hE C;obtain ⟨W,_,_,O,_⟩:=Bfs.old h i hsi v;have B:par i<come.length:=y40_;cases w with
  | z _ hz=>omega
  | s _ k' _ hk' =>
  have r:cAt come i∈adj.getD (cAt come (par i)).toNat []:=O;have N:Near adj dst (n+1) (cAt come (par i)):=.inr ⟨_,r,d⟩;have E:∀ q,q<come.length→Lev par src.length q k'→∀ y∈adj.getD (cAt come q).toNat [],Near adj dst n y→∃ m,m<come.length∧cAt come m=y∧Lev par src.length m (k' + 1)∧src.length≤m∧par m≤q:=fun q F o y hy c=>by
   obtain ⟨m,b,hm,e,hb,x,A⟩:=Yl8 h F o hy;rw [← e] at c;have V:=g n m b hm hb c;have P:b=k' + 1:=y40_;subst P;have hsm:src.length≤m:=Nat.le_of_not_lt fun hlt=>by
    have:=Yw0 h hm hb (.z m hlt);omega
   exact ⟨m,hm,e,hb,hsm,A hsm⟩
  have L:NoE adj dst come par src.length (par i) k' (n+1):=fun q F o c=>by
   have G:q<come.length:=y40_;rcases c with c | ⟨y,hy,c⟩
   ·have:=g n q k' G o c
    omega
   ·obtain ⟨m,hm,e,hb,hsm,A⟩:=E q G o y hy c
    rw [← e] at c;refine hE m (Nat.lt_of_not_le fun x=>?_) hb c;by_cases p:i=m
    ·subst p;omega
    ·have:=(Bfs.mono h i m hsi y40_ hm).1
     omega
  have H:∀ y∈adj.getD (cAt come (par i)).toNat [],y<cAt come i→¬ Near adj dst n y:=fun y hy hlt c=>by
   obtain ⟨m,hm,e,hb,hsm,A⟩:=E (par i) B hk' y hy c;rw [← e] at c hlt;refine hE m (Nat.lt_of_not_le fun x=>?_) hb c;by_cases p:i=m
   ·subst p;omega
   ·obtain ⟨U,h2⟩:=Bfs.mono h i m hsi y40_ hm
    have:=h2 y40_;omega
  have M:Greedy adj dst (adj.getD (cAt come (par i)).toNat []) n (cAt come i :: tail):=by
   rcases C with ⟨rfl,rfl⟩ | ⟨f,rfl,u⟩
   ·exact .stop _ _ r d fun y hy hlt hc=>H y hy hlt hc
   ·refine .step _ _ _ _ r d (fun y hy hc=>?_) H u
    obtain ⟨m,b,hm,e,hb,x,_⟩:=Yl8 h B hk' hy;rw [← e] at hc;have:=g f m b hm hb hc;omega
  have:=ih B k' (n+1) (cAt come i :: tail) hk' y40_ N L (.inr ⟨n,rfl,M⟩);rw [List.append_assoc];exact this
theorem greedy_first (h:Done adj src come ah par) (hs:src.Pairwise (·<·)) {j:Nat} (d:j<come.length) (f:cAt come j∈dst) (e:∀ i,i<j→cAt come i∉dst) {l:List Int} (k:Way come par src.length j l):∃ n,Greedy adj dst src n l:=by
 obtain ⟨D,c⟩:=lev_ex h j d;have:=Xa4 h hs e c k d D 0 [] c y40_ f (fun m g _ hc=>e m g hc) (.inl ⟨rfl,rfl⟩);rw [List.append_nil] at this;exact ⟨D,this⟩
end
end Go.Proofs.YtigobiacbficaaaGreatDoor.Wp.R
namespace Go.Proofs.YtigobiacbficaaaGreatDoor.Wp
inductive Chain (a b:Mat):Nat→List Int→Prop
 | zero:Chain a b 0 []
 | succ {k:Nat} {s l:List Int} {n:Nat} {x:Int}:Chain a b k s→Greedy (adjG a b s) (addG b s) (addG a s) n (x :: l)→Chain a b (k+1) (turnL s (x :: l))
def Stop (a b:Mat) (s:List Int):Prop:=∀ y∈addG a s,∀ k,¬ Near (adjG a b s) (addG b s) k y
noncomputable def comeL (a b:Mat) (s:List Int):List Int:=itL (adjG a b s) (addG a s) (adjG a b s).length
noncomputable def upL (a b:Mat) (s:List Int):List Int:=Z8_ (allL a.n) (comeL a b s)
structure MaxIs (a b:Mat) (s u:List Int):Prop where
 ch:∃ k,Chain a b k s
 stop:Stop a b s
 up:u=upL a b s
section
variable {a b:Mat} {s t u v:List Int}
end
open Go Go.RowKit
instance nearDec (adj:List (List Int)) (dst:List Int):∀ (n:Nat) (x:Int),Decidable (Near adj dst n x)
 | 0,x=>inferInstanceAs (Decidable (x∈dst))
 | n+1,x=>by
  have:=nearDec adj dst n;exact inferInstanceAs (Decidable (Near adj dst n x∨∃ y∈adj.getD x.toNat [],Near adj dst n y))
open Go Go.RowKit
theorem Row.behindV {w:World} {B:Nat} {d:Addr} {n c:Nat} {x:Int} {l:List Int} (h:Row w B (.slice (some d) n c) (x :: l)):Row w B (.slice (some (d.add 1)) l.length (c - 1)) l∧n=l.length+1∧1≤c:=by
 obtain ⟨A,o,e,⟨g,h2,_⟩,k⟩:=h;injection e with e1 e2 e3;subst e1 e2 e3;simp only [List.length_cons] at g;refine ⟨⟨some (d.add 1),c - 1,rfl,⟨y40_,y40_,fun e=>by cases e⟩,fun i p=>?_⟩,rfl,y40_⟩;obtain ⟨m,f,hb,j⟩:=k (i+1) (by simp only [List.length_cons];omega);injection f with f;subst f;refine ⟨d.add 1,rfl,by rw [Z2_];exact hb,?_⟩;rw [Go.Deep.add_add,Nat.add_comm 1 i,j];rfl
theorem Xr8 (a b:List Int):(Z8_ a b).length≤a.length:=x19_
theorem Ve5 {l:List Int} {p:Int→Bool} {k:Nat} (c:k<l.length) (h:(l.take k).any p=false):(l.take (k+1)).any p=p (l.getD k 0):=by
 rw [List.take_succ_eq_append_getElem c,List.any_append,h,show l[k]=l.getD k 0 by simp [List.getD,c]];simp
theorem Zi2 (l:List (List Int)) (hl:∀ i,IsSet (l.getD i [])) (S:∀ i,(l.getD i []).length≤64) (hL:l.length≤64):∀ (s d:List Int) (j m o:Value) (w:World),(∀ x∈s,0≤x∧x<(l.length:Int))→IsSet d→d.length+s.length≤1000→Rows2 w w.heap.size j l→Row w w.heap.size m s→Row w w.heap.size o d →
  Calls Tryz.prog 116 #[j,m,o] w (Says w (F8_ l s d))
 | [],d,j,m,o,w,_,_,_,hv,hs,hu=>by
  obtain ⟨As,cs,rfl,_⟩:=hs
  go_enter Tryz.func116,Tryz.ntmps116
  exact y4_
 | x :: s,d,j,m,o,w,hin,hus,hsz,hv,hs,hu=>by
  have ih:Hid (∀ (d:List Int) (j m o:Value) (w:World),IsSet d→d.length+s.length≤1000→Rows2 w w.heap.size j l→Row w w.heap.size m s→Row w w.heap.size o d →
   Calls Tryz.prog 116 #[j,m,o] w (Says w (F8_ l s d))):=hid fun d j m o w g h2 h3 h4 h5=>Zi2 l hl S hL s d j m o w (fun y hy=>hin y y45_) g h2 h3 h4 h5
  have HV:=hid hv;have HS:=hid hs;have HU:=hid hu;have xv:=hid hus;obtain ⟨X,Q⟩:∃ X:Nat,x=(X:Int):=⟨x.toNat,by have:=hin x k40_;omega⟩;have xn:X<l.length:=by have:=hin x k40_;omega
  have y0:(X:Int)<(l.length:Int):=y40_;have xu:=hid (hl X);have xg:=hid (S X);obtain ⟨Al,cl,rfl,_⟩:=id hv;obtain ⟨As,cs,rfl,_⟩:=id hs;obtain ⟨Au,cu,rfl,_⟩:=id hu;obtain ⟨D,P,x5⟩:=Row.nthV hs (k:=0) k40_;subst P;have O:=x5 w (Below.refl _ _);rw [show (x :: s).getD 0 0=(X:Int) from Q,add_zero] at O;obtain ⟨xw,ul,xm,gl,x9⟩:=Rows2.read hv X xn;subst xm;have xh:=hid x9;obtain ⟨B,_,y1⟩:=Row.behindV hs;have xc:=hid B;have y2:(1:Int)≤(cs:Int):=y40_;have y3:(s.length:Int)+1≤(cs:Int):=by obtain ⟨_,_,e,⟨g,_⟩,_⟩:=id hs;injection e with e1 H e3;subst e3;simp only [List.length_cons] at g;omega
  have xa:d.length≤1048576:=y40_;have xq:(Z8_ (l.getD X []) d).length≤64:=Nat.le_trans (Xr8 _ _) (S X);have xr:((Z8_ (l.getD X []) d).length:Int)≤64:=y40_;have J:Hid (F8_ l (x :: s) d=(Z8_ (l.getD X []) d).any fun r=>F8_ l s (Y1_ d [r])):=hid (by rw [F8_,Q,Int.toNat_natCast]);have xf:=hid (G8_ (l.getD X []) d);clear hv hs hu hin hus B x9 x5 Q
  go_enter Tryz.func116,Tryz.ntmps116
  go_wp2_with fail
  refine (E6_ _ _ (l.getD X []) d _ xh.out HU.out (by have:=xg.out;omega) xa).mono ?_;rintro e w1 ⟨v1,rfl,x7,x3⟩;have L:=hid x7;have Z:=hid x3;obtain ⟨M,hM⟩:∃ M,Z8_ (l.getD X []) d=M:=⟨_,rfl⟩;rw [hM] at L xq xr J xf;obtain ⟨Am,G,rfl,_⟩:=id L.out;have xd:=hid O;have xo:D.block<w.heap.size:=by obtain ⟨_,_,e,_,hk⟩:=HS.out;injection e with e1;subst e1;obtain ⟨a,H,hb,_⟩:=hk 0 k40_;injection H with H;rw [H];exact hb
  clear x7 x3 hM O gl;go_wp2
  go_loopw [6,8] (fun _ Y wr=>∃ k:Nat,Y=.int .i64 (k:Int)∧k≤M.length∧Hid ((M.take k).any (fun r=>F8_ l s (Y1_ d [r]))=false∧Below w1.heap.size w1 wr)) (fun _ Y _=>M.length - (intOf Y).toNat)
  case atStart=>exact ⟨0,rfl,Nat.zero_le _,k40_,Below.refl _ _⟩
  case round =>
   obtain ⟨k,rfl,hk,v⟩:=hrel;by_cases x6:k<M.length
   ·have y7:(k:Int)<(M.length:Int):=by omega
    have y9:IntKind.i64.wrap ((k:Int)+1)=(k:Int)+1:=y41_;obtain ⟨ad,P,_,y4,T⟩:=Row.oneV (L.out.up v.out.2) x6;subst P;have y5:(k:Int)+1≤(G:Int):=y40_;have y6:(k:Int)≤(k:Int)+1:=y40_;have u:=hid (Z0_ Z.out (le_refl _) v.out.2);obtain ⟨r,U⟩:∃ r,M.getD k 0=r:=⟨_,rfl⟩;rw [U] at T;have x1:Hid (∀ (A:Option Addr) (n c:Nat),A=some (ad.add k)→n=1→c=G - k→Row wr wr.heap.size (.slice A n c) [r]):=hid fun A n c g h2 h3=>by subst g h2 h3;exact T
    have C:=hid (Ve5 x6 v.out.1);rw [U] at C;have xe:Hid ((Y1_ d [r]).length+s.length≤1000):=hid (by have:=Zv7 d [r];simp only [List.length_cons,List.length_nil] at this hsz;omega);clear T U;obtain ⟨z,V⟩:∃ z,F8_ l s (Y1_ d [r])=z:=⟨_,rfl⟩;have E:=(Below.refl wr.heap.size wr).drew;have xk:=hid ((HU.out.up u.out).up E);have N:=hid ((HV.out.up u.out).up E);have B:=(xc.out.up u.out).up E;have x2:Hid (cs=1→s=[]):=hid fun h=>List.eq_nil_of_length_eq_zero y40_;have xi:Hid (∀ (A:Option Addr) (n c:Nat),(A=some (D.add 1)∨(s=[]∧A=some D))→n=s.length→c=cs - 1→∀ W,Below wr.drew.heap.size wr.drew W→Row W W.heap.size (.slice A n c) s):=hid fun A n c g h2 h3 W I=>by
     subst h2 h3;rcases g with rfl | ⟨g,rfl⟩
     ·exact B.up I
     ·have hc:=B.up I
      obtain ⟨_,_,e,⟨q1,q2,_⟩,_⟩:=hc;injection e with _ _ e3;subst e3;subst g;exact ⟨_,_,rfl,⟨q1,q2,fun e=>by cases e⟩,fun i hi=>absurd hi k40_⟩
    have xx:(1:Int)≤(s.length:Int)+1:=y40_;have xy:(0:Int)≤1:=y40_;have xz:((s.length:Int)+1 - 1).toNat=s.length:=y40_;have xl:Hid (∀ (A:Option Addr) (n c:Nat),A=some (ad.add k)→n=1→c=G - k→Row wr.drew wr.drew.heap.size (.slice A n c) [r]):=hid fun A n c g h2 h3=>(x1.out A n c g h2 h3).up E;have p:Hid (Below wr.drew.heap.size wr.drew wr.drew):=hid (Below.refl _ _);have K5:Hid (∀ W,Below wr.drew.heap.size wr.drew W→W.cell? D=some (.int .i64 (X:Int))):=hid fun W I=>((Z0_ u.out.drew (le_refl _) I).cell xo).trans xd.out;have HM:Hid (∀ (j m o:Value) (W:World),Rows2 W W.heap.size j l→Row W W.heap.size m s→Row W W.heap.size o (Y1_ d [r])→Calls Tryz.prog 116 #[j,m,o] W (Says W z)):=hid fun j m o W g h2 h3=>by rw [← V];exact ih.out _ j m o W (E3_ _ _) xe.out g h2 h3
    rw [V] at C;clear V E x1 ih B;have y8:¬ G=k:=y40_;by_cases F:cs=1
    all_goals
     go_wp2
     go_region_held3 (fun W=>W.cell? D=some (.int .i64 (X:Int)))
      (exact K5.out _ p.out)
      (first
      | (go_at_call 53;refine (B2_ _ _ d [r] _ xk.out (xl.out _ _ _ (by first | rfl | (simp [Addr.add];done) | (simp [Addr.add];omega) | (simp;intro h;omega)) (by first | rfl | omega | (simp;try omega)) (by first | rfl | omega | (simp;try omega))) xa k40_).mono ?_;rintro e ya ⟨xt,rfl,x8,R⟩;replace p:=hid (Z0_ p.out (le_refl _) R);replace N:=hid (N.out.up R);have xj:=hid x8;clear x8 R)
      | (go_at_call_of 116 xt;refine (HM.out _ _ _ _ N.out (xi.out _ _ _ (by first | exact .inl rfl | exact .inr ⟨x2.out F,rfl⟩ | exact .inl (by simp [F]) | exact .inr ⟨x2.out F,by simp [F]⟩) (by first | rfl | omega | (simp;done) | (simp;omega)) (by first | rfl | omega | (simp;done) | (simp;omega)) _ p.out) xj.out).mono ?_;rintro e yb ⟨rfl,x4⟩;replace p:=hid (Z0_ p.out (le_refl _) x4);clear x4))
     go_simp;have xb:=hid (Z0_ u.out.drew (le_refl _) p.out);have x0:=hid (Z0_ v.out.2.drew (le_refl _) p.out);cases z
     ·go_wp2
      go_roundw
      case rel=>first | exact ⟨k+1,j41_,y40_,C.out,x0.out⟩ | exact ⟨_,.int .i64 ((k:Int)+1),_,_,_,_,_,_,_,_,_,_,_,_,_,_,_,_,_,⟨k+1,j41_,y40_,C.out,x0.out⟩,by rw [F]⟩
      exact mz_
     ·have K:Hid (F8_ l (x :: s) d=true):=hid (by
       rw [J.out];have g:=C.out;rw [List.any_eq_true] at g ⊢;obtain ⟨q,hq,xs⟩:=g;exact ⟨q,List.mem_of_mem_take hq,xs⟩)
      go_wp2;go_ret;exact ⟨by rw [K.out];rfl,xb.out⟩
   ·have xp:k=M.length:=by omega
    subst xp;have K:Hid (F8_ l (x :: s) d=false):=hid (by rw [J.out,← v.out.1,List.take_length]);have u:=hid (Z0_ Z.out (le_refl _) v.out.2);go_wp2;go_ret;exact ⟨by rw [K.out];rfl,u.out⟩
end Go.Proofs.YtigobiacbficaaaGreatDoor.Wp
