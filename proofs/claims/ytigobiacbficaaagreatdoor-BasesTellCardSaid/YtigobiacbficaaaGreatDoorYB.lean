/- The program's reach, walked: slices.Repeat, the walk, the way back, May, From, Path. What the program's reach tells of a digraph of exchanges: what is come to, and the way, as the plain texts have them. -/
import Derived.Test.YtigobiacbficaaaGreatDoorMShelf
import Derived.Test.YtigobiacbficaaaGreatDoorIUnion
import Derived.Test.YtigobiacbficaaaGreatDoorZK
import Derived.Test.YtigobiacbficaaaGreatDoorVI10C
import Derived.Laws.CopyOwn
import Derived.Test.YtigobiacbficaaaGreatDoorX0A
import Derived.Test.YtigobiacbficaaaGreatDoorX0B
set_option maxHeartbeats 4000000
set_option maxRecDepth 100000
open Go.Lib (hid)
open Nat (le_refl)
namespace Go.Proofs.YtigobiacbficaaaGreatDoor.Wp.R
open Go.RowKit
theorem cellN (W:World) (n:Nat) (h:W.heap.size=n) (u:Value) (t:TypeId):(W.alloc (.cells #[u] t)).cell? ⟨n,0,none⟩=some u:=by
 subst h;exact (Blk.new W t #[u]).cell 0
theorem Zz1 (w:World) (g r:Nat) (v:Value):w.grownBy (w.setCell ⟨g,r,none⟩ v) (some g) :=
 ⟨rfl,rfl,rfl,by simp [World.setCell],fun i _ c=>Below.heap_setCell w ⟨g,r,none⟩ v i (by rintro rfl;exact c rfl)⟩
open K (updI NumsK okL mayset_is wpAny_act nodup_le T0_ Ze7 M0_)
def FillB (w:World) (g n:Nat) (z:Int) (m:Nat):Prop:=∃ cur:List Value,w.heap[g]?=some (.cells cur.toArray 3 (0,0))∧cur.length=n∧(∀ j,j<m→cur[j]?=some (.int .i64 z))∧∀ v∈cur,v.oneCell'=true
theorem Yk4 {w:World} {g n m t:Nat} {z:Int} {d:List Value} (h2:d.length=n) (h3:∀ j,j<m→d[j]?=some (.int .i64 z)) (e:∀ v∈d,v.oneCell'=true) (o:m+t≤n)
  (h:w.heap[g]?=some (.cells (splice d m (List.replicate t (Value.int .i64 z))).toArray 3 (0,0))):FillB w g n z (m+t):=by
 refine ⟨_,h,?_,fun j k=>?_,fun v c=>?_⟩
 ·rw [length_splice _ _ _ x41_,h2]
 ·unfold splice
  by_cases f:j<m
  ·rw [List.getElem?_append_left x41_,List.getElem?_take_of_lt f]
   exact h3 j f
  ·rw [List.getElem?_append_right x41_,List.length_take,show min m d.length=m by omega,List.getElem?_append_left x41_,List.getElem?_replicate,if_pos y40_]
 ·unfold splice at c
  rw [List.mem_append,List.mem_append] at c;rcases c with c | c | c
  ·exact e v (List.mem_of_mem_take c)
  ·rw [List.eq_of_mem_replicate c];rfl
  ·exact e v (List.mem_of_mem_drop c)
theorem Xo7 {w:World} {g n m:Nat} {z:Int} (h:FillB w g n z m) {j:Nat} (d:j<m):w.cell? ⟨g,j,none⟩=some (.int .i64 z):=by
 obtain ⟨e,c,_,h3,_⟩:=h;rw [cell_of_row w g j _ _ _ c];simpa using h3 j d
theorem repeat_any (b n:Nat) (w:World) (hc:w.cell? ⟨b,0,none⟩=some (.int .i64 (-1))) (hb:b<w.heap.size) (hn:n≤4096) :
  Calls Tryz.prog 44 #[.slice (some ⟨b,0,none⟩) 1 1,.int .i64 n] w fun e w'=>e=.returned (.slice (some ⟨w.heap.size,0,none⟩) n n)∧NumsK w' w.heap.size n (fun _=>-1)∧Below w.heap.size w w':=by
 have xn:(n:Int)≤4096:=y40_;have G:=fun W=>Tryz.bits_Mul 1 n y40_ y40_ W;rw [show 1 * n / 18446744073709551616=0 by omega,show 1 * n % 18446744073709551616=n by omega] at G;have xb:=hid G;have xh:=fun W=>run_make_row' 28 3 (.int .i64 0) 8 Tryz.underlying28 info3 rfl .i64 .i64 n y40_ y40_ W;have xd:Hid (FillB (w.alloc (.cells (madeCells #[.int .i64 0] n) 3)) w.heap.size n (-1) 0):=hid ⟨(madeCells #[.int .i64 0] n).toList,by simpa using heap_alloc_new w _,by simp [size_madeCells],fun j d=>by omega,fun v c=>by
  rw [toList_madeCells_one] at c;rw [List.eq_of_mem_replicate c];rfl⟩
 have J:=hid ((Below.refl w.heap.size w).alloc (le_refl _) (.cells (madeCells #[.int .i64 0] n) 3));have M:=hid hc;clear G hc
 go_enter Tryz.func44,Tryz.ntmps44
 go_wp2_with fail
 refine (xb.out _).mono ?_;rintro e w1 ⟨rfl,xj⟩;have x6:=xj.symm;subst x6;have xe:((0:Nat):Int)=0:=rfl;rw [xe];obtain ⟨cs,k⟩:∃ cs:List Value,cs=if n=0 then [] else [.int .i64 (-1)]:=⟨_,rfl⟩
 have u:Hid (cs.length=Nat.min 1 n):=hid (by
  rw [k];rcases Nat.eq_zero_or_pos n with g | g
  ·rw [if_pos g,g];rfl
  ·rw [if_neg y40_]
   show 1=min 1 n;omega)
 have D:Hid (∀ v∈cs,v.oneCell'=true):=hid (by
  rw [k];intro v c;split at c<;>simp at c
  subst c;rfl)
 have S:Hid (∀ j v,cs[j]?=some v→(w.alloc (.cells (madeCells #[.int .i64 0] n) 3)).cell? ((⟨b,0,none⟩:Addr).add j)=some v):=hid (by
  rw [k];intro j v d;split at d
  ·simp at d
  ·match j,d with
   | 0,d =>
    simp at d;subst d;rw [add_zero];exact (Below.cell (B:=w.heap.size) ((Below.refl _ w).alloc (le_refl _) _) (p:=⟨b,0,none⟩) hb).trans M.out)
 have Q:Hid (0<n→cs[0]?=some (.int .i64 (-1))):=hid fun g=>by rw [k,if_neg y40_];rfl
 have C:Hid ((w.alloc (.cells (madeCells #[.int .i64 0] n) 3)).heap[w.heap.size]?=some (.cells (madeCells #[.int .i64 0] n).toList.toArray 3 (0,0))):=hid (by simpa using heap_alloc_new w _);obtain ⟨Z,y⟩:∃ Z:List Value,Z=(madeCells #[.int .i64 0] n).toList:=⟨_,rfl⟩;have r:Hid (Z.length=n):=hid (by rw [y];simp [size_madeCells]);have I:Hid (∀ v∈Z,v.oneCell'=true):=hid (by
  rw [y,toList_madeCells_one];intro v c;rw [List.eq_of_mem_replicate c];rfl)
 rw [← y] at C;clear k y
 go_wp2_with (refine wpList_copy_splice rfl (.tmp 31) (.tmp 32) 28 28 rfl 3 Tryz.underlying28 z40_ _ _ _ _ _ _ rfl rfl w.heap.size 0 Z 3 C.out cs u.out (fun _=>⟨rfl,⟨b,0,none⟩,rfl,S.out⟩) ?h3 D.out w.heap.size w J.out (le_refl _) ?_)
 case h3 =>
  rw [r.out,u.out];show 0+min 1 n≤n;omega
 intro w2 O X;obtain ⟨m0,o⟩:∃ m0,cs.length=m0:=⟨_,rfl⟩;have xg:m0=min 1 n:=o.symm.trans u.out;have T:Hid (FillB w2 w.heap.size n (-1) m0):=hid (by
  refine ⟨_,O.out,?_,?_,?_⟩
  ·rw [length_splice _ _ _ (by rw [r.out,o];omega),r.out]
  ·intro j d
   have g:j=0:=y40_;subst g;have:=Q.out y40_;unfold splice;rw [List.take_zero,List.nil_append,List.getElem?_append_left y40_];exact this
  ·intro v c
   unfold splice at c;rw [List.mem_append,List.mem_append] at c;rcases c with c | c | c
   ·simp at c
   ·exact D.out v c
   ·exact I.out v (List.mem_of_mem_drop c))
 have L:=hid X;rw [o];have x3:m0≤n:=y40_;have x4:n=0∨1≤m0:=y40_;clear O X xd J M xh o xg u D S Q C r I;go_wp2
 go_loopw [8] (fun H wr=>∃ m:Nat,H=.int .i64 m∧m≤n∧(n=0∨1≤m)∧FillB wr w.heap.size n (-1) m∧Below w.heap.size w wr) (fun H _=>n - (intOf H).toNat)
 case atStart=>exact ⟨m0,rfl,x3,x4,T.out,L.out⟩
 case round =>
  clear T L x3 x4;obtain ⟨m,rfl,hm,o,hf,x0⟩:=hrel;have s:=hid hf;have z:=hid x0;clear hf x0;by_cases xk:m<n
  ·have xl:(m:Int)<(n:Int):=by omega
   have xm:(m:Int)≤(n:Int):=y40_;have xo:¬ (n=m):=y40_;go_wp2;refine wp_region_any z40_ ?_;change wpAny _ _ _ _ _ _ _ (World.drew _);refine wpAny_t 0 ?_;refine wpAny_t 1 ?_;refine wpAny_t 2 ?_;refine wpAny_t 3 ?_;refine wpAny_t 4 ?_;refine wpAny_t 5 ?_;refine wpAny_t 6 ?_;obtain ⟨x,x1,x2,E,F⟩:=id s.out;obtain ⟨t,q⟩:∃ t,t=Nat.min m (n - m):=⟨_,rfl⟩;have x5:m+t≤n:=by rw [q];show m+min m (n - m)≤n;omega
   have xp:1≤t:=by rw [q];show 1≤min m (n - m);omega
   have xq:t≤m:=by rw [q];show min m (n - m)≤m;omega
   have hw:IntKind.i64.wrap ((m:Int)+(t:Int))=(m:Int)+(t:Int):=y41_;have x6:wrap64 ((m:Int)+(t:Int))=(m:Int)+(t:Int):=by unfold wrap64;omega
   have U:=hid q;have N:=hid x1;have x8:=hid E;have x9:=hid F;have R:=hid (fun (W:World) (h:W.heap[w.heap.size]?=some (.cells (splice x m (List.replicate t (Value.int .i64 (-1)))).toArray 3 (0,0)))=>Yk4 x2 E F x5 h);clear q x1 E F;refine wpAny_ready (rs:=[7]) z40_ k40_ ?_;refine AllReady.cons rfl (fun K V=>?_) AllReady.nil;refine step_copy_splice rfl (.tmp 41) (.tmp 44) 28 28 rfl 3 Tryz.underlying28 z40_ _ _ _ _ _ _ rfl rfl w.heap.size m x 3 N.out (List.replicate t (.int .i64 (-1))) (by rw [List.length_replicate];exact U.out) (fun _=>⟨rfl,⟨w.heap.size,0,none⟩,rfl,fun j v d=>?_⟩) (by rw [List.length_replicate,x2];exact x5) (fun v c=>by rw [List.eq_of_mem_replicate c];rfl) w.heap.size w z.out.drew (le_refl _) ?_
   ·have xf:j<t:=by
     have:=(List.getElem?_eq_some_iff.1 d).1;simpa using this
    rw [List.getElem?_replicate,if_pos xf] at d;injection d with d;subst d;have:=Xo7 s.out (j:=j) y40_;have e:(⟨w.heap.size,0,none⟩:Addr).add j=⟨w.heap.size,j,none⟩:=j44_;rw [e];exact this
   intro w3 P Y;rw [List.length_replicate];have xa:=hid (R.out w3 P.out);have x7:=hid Y;clear P Y;refine V _ _ ?_;clear V K;refine wpAny_n ?_;refine wpAny_t 8 ?_;refine wpAny_t 9 ?_;refine wpAny_done z40_ ?_ _;clear s z N x8 x9 R U;go_wp2
   go_roundw
   case rel=>exact ⟨m+t,j41_,y40_,.inr y40_,xa.out,x7.out⟩
   exact mz_
  ·have xi:m=n:=by omega
   subst xi;have xc:Hid (NumsK wr w.heap.size m (fun _=>-1)):=hid (by
    obtain ⟨x,h1,h2,h3,h4⟩:=s.out;exact ⟨x.toArray,h1,j50_,fun i hi=>by simpa using h3 i hi⟩)
   go_wp2;go_ret;exact ⟨rfl,xc.out,z.out⟩
theorem Yt7 {w:World} {B:Nat} {A:Option Addr} {l:List Int} (g:0<l.length) (f:∀ k,k<l.length→∃ c:Addr,A=some c∧c.block<B∧w.cell? (c.add k)=some (.int .i64 (l.getD k 0))):∃ b d,A=some ⟨b,d,none⟩∧b<B∧∀ j,j<l.length→w.cell? ⟨b,d+j,none⟩=some (.int .i64 (l.getD j 0)):=by
 obtain ⟨c,rfl,h,hc⟩:=f 0 g;obtain ⟨b,d,q⟩:=c;have p:q=none:=by simpa [Addr.add] using World.cell?_spot hc
 subst p;refine ⟨b,d,rfl,h,fun j o=>?_⟩;obtain ⟨r,e,_,m⟩:=f j o;injection e with e;subst e;rw [← m];congr 1;unfold Addr.add;split
 ·simp
 ·rfl
theorem clone_any (v:Value) (l:List Int) (B:Nat) (w:World) (o:Row w B v l) (hl:l.length≤4096) :
  Calls Tryz.prog 102 #[v] w fun e w'=>∃ d,e=.returned d∧w'.ownsRow w.heap.size 3 1 d (ints l).length (ints l)∧Below w.heap.size w w':=by
 obtain ⟨A,c,rfl,q,k⟩:=o;by_cases j:l.length=0
 ·have m:l=[]:=List.eq_nil_of_length_eq_zero j
  subst m;cases A with
  | none =>
   refine (Tryz.slices_Clone_int_nil _ c w).mono ?_;rintro e w' ⟨rfl,rfl⟩;exact ⟨_,rfl,World.ownsRow_nil _ _ _ _,Below.refl _ _⟩
  | some a =>
   refine (Tryz.slices_Clone_int_zero a c w).mono ?_;rintro e w' ⟨d,rfl,g,_,h2⟩;exact ⟨d,rfl,g,h2⟩
 ·obtain ⟨b,p,rfl,_,hc⟩:=Yt7 y40_ k
  have h:=Tryz.slices_Clone_int b p l.length c l w (le_refl _) y40_ hc;rw [List.take_length] at h;refine h.mono ?_;rintro e w' ⟨d,rfl,g,_,h2⟩;exact ⟨d,rfl,by rw [Y7_];exact g,h2⟩
structure WS (w0 wr:World) (bp g n:Nat) (cv:Value) (come:List Int) (ah:Nat→Int):Prop where
 box:Blk wr bp 102 #[cv,.slice (some ⟨g,0,none⟩) n n]
 res:Blk wr w0.heap.size 102 #[.slice none 0 0,.slice none 0 0]
 own:wr.ownsRow (w0.heap.size+1) 3 1 cv (ints come).length (ints come)
 ahd:NumsK wr g n ah
 below:Below w0.heap.size w0 wr
 n1:some g≠cv.ownBlock
 n2:some bp≠cv.ownBlock
 n3:g≠bp
 lg:w0.heap.size<g
 lb:w0.heap.size<bp
section
variable {w0 wr:World} {bp g n:Nat} {cv:Value} {come:List Int} {ah:Nat→Int}
theorem WS.row (h:WS w0 wr bp g n cv come ah):Row wr wr.heap.size cv come:=Row.of_own (zs:=come) h.own (Y7_ _)
theorem WS.congr {c:Nat→Int} (h:WS w0 wr bp g n cv come ah) (e:∀ i,i<n→ah i=c i):WS w0 wr bp g n cv come c:=⟨h.box,h.res,h.own,h.ahd.congr e,h.below,h.n1,h.n2,h.n3,h.lg,h.lb⟩
theorem WS.set (h:WS w0 wr bp g n cv come ah) (q:Nat) (x:Int):WS w0 (wr.setCell ⟨g,q,none⟩ (.int .i64 x)) bp g n cv come (updI ah q x) where
 box:=h.box.far (p:=⟨g,q,none⟩) (fun e=>h.n3 e.symm) _
 res:=h.res.far (p:=⟨g,q,none⟩) (by have:=h.lg;show w0.heap.size≠g;omega) _
 own:=h.own.kept (Zz1 wr g q _) (.inr fun e=>h.n1 e.symm)
 ahd:=h.ahd.set q x
 below:=h.below.setCell (p:=⟨g,q,none⟩) (Nat.le_of_lt h.lg) _
 n1:=h.n1
 n2:=h.n2
 n3:=h.n3
 lg:=h.lg
 lb:=h.lb
theorem WS.up (h:WS w0 wr bp g n cv come ah) {w':World} (hb:Below wr.heap.size wr w'):WS w0 w' bp g n cv come ah where
 box:=h.box.below hb (Blk.lt h.box)
 res:=h.res.below hb (Blk.lt h.res)
 own:=h.own.kept (Z7_ hb none) (by
  rcases cv.ownBlock with _ | q
  ·exact .inl rfl
  ·exact .inr k40_)
 ahd:=h.ahd.below hb
 below:=h.below.trans (hb.mono h.below.size)
 n1:=h.n1
 n2:=h.n2
 n3:=h.n3
 lg:=h.lg
 lb:=h.lb
theorem WS.push (h:WS w0 wr bp g n cv come ah) {f:World} {c:Value} {q:Int} (m:f.ownsRow (w0.heap.size+1) 3 1 c ((ints come).length+1) (ints come ++ [.int .i64 q])) (j:wr.grownBy f cv.ownBlock) (hl:c.ownBlock=cv.ownBlock∨c.ownBlock=some wr.heap.size) :
  WS w0 (f.setCell ⟨bp,0,none⟩ c) bp g n c (come ++ [q]) ah:=by
 have s:=Blk.lt h.box;have r:=World.rowIs.lt h.ahd;have u:=Blk.lt h.res;have m1:some g≠c.ownBlock:=by
  rcases hl with e | e
  ·rw [e];exact h.n1
  ·rw [e];intro d;injection d with d;omega
 have m2:some bp≠c.ownBlock:=by
  rcases hl with e | e
  ·rw [e];exact h.n2
  ·rw [e];intro d;injection d with d;omega
 have o:some w0.heap.size≠cv.ownBlock:=fun e=>by
  have:=(h.own.lt _ e.symm).1;omega
 refine ⟨?_,?_,?_,?_,?_,m1,m2,h.n3,h.lg,h.lb⟩
 ·exact (h.box.grown j h.n2).set_ 0 c
 ·exact (h.res.grown j o).far (p:=⟨bp,0,none⟩) (by have:=h.lb;show w0.heap.size≠bp;omega) _
 ·rw [V6_,List.length_append]
  exact World.ownsRow.kept m (Zz1 f bp 0 c) (.inr fun e=>m2 e.symm)
 ·exact World.rowIs.of_block (World.rowIs.of_block h.ahd (j.block g r h.n1)) (Below.heap_setCell f ⟨bp,0,none⟩ c g h.n3)
 ·exact (h.below.grown j h.below.size (fun i k=>by have:=(h.own.lt i k).1;omega)).setCell (p:=⟨bp,0,none⟩) (Nat.le_of_lt h.lb) _
end
def WalkP (w:World) (adj:List (List Int)) (src:List Int) (e:Ending) (w':World):Prop :=
 ∃ (cv:Value) (g:Nat),e=.returned (.agg #[cv,.slice (some ⟨g,0,none⟩) adj.length adj.length])∧Row w' w'.heap.size cv (finS adj src).1∧NumsK w' g adj.length (finS adj src).2∧Below w.heap.size w w'
theorem Zg8 (v vf:Value) (adj:List (List Int)) (src:List Int) (w:World) (hr:Rows2 w w.heap.size v adj) (hf:Row w w.heap.size vf src) (hd:Dig adj) (hs:Pts adj.length src) (hn:adj.length≤4096) :
  Calls Tryz.prog 96 #[v,vf] w (WalkP w adj src):=by
 have yv:src.length≤4096:=by
  have:=nodup_le (b:=(List.range adj.length).map Int.ofNat) (hs.up.imp fun hab e=>by omega) fun x I=>by
   have:=hs.pt x I;exact x15_
  simp at this;omega
 have Y:=hid hd;have Hs:=hid hs;have Hf:=hid hf;obtain ⟨A,c,rfl,z0,xn⟩:=hr;obtain ⟨Af,cf,rfl,z1,xo⟩:=hf;have X:=hid xn;have Hcellf:=hid xo;have xl:=Blk.new w 102 #[.slice none 0 0,.slice none 0 0];have xa:=hid xl;have x8:=hid ((Below.refl w.heap.size w).alloc (le_refl _) (.cells #[.slice none 0 0,.slice none 0 0] 102));have xc:=hid (Hf.out.upA (.cells #[.slice none 0 0,.slice none 0 0] 102));clear xl hd hs xn xo
 go_enter Tryz.func96,Tryz.ntmps96
 go_wp2_with fail
 refine (clone_any _ src _ _ xc.out yv).mono ?_;rintro e m ⟨cv,rfl,x6,N⟩;have xx:(w.alloc (.cells #[.slice none 0 0,.slice none 0 0] 102)).heap.size=w.heap.size+1:=k40_;rw [xx] at x6 N;have R:=hid x6;have xb:=hid (Blk.below xa.out N y40_);have x9:Hid (Below w.heap.size w m):=hid (x8.out.trans (N.mono y40_));have yw:w.heap.size+1≤m.heap.size:=by have:=N.size;omega
 clear x6 N xa x8 xc;have xf:=hid (cellN m _ rfl (.int .i64 (-1)) 3)
 go_wp2_with fail
 refine (repeat_any m.heap.size adj.length _ xf.out k40_ hn).mono ?_;rintro e z ⟨rfl,M,x1⟩;have xy:(m.alloc (.cells #[.int .i64 (-1)] 3)).heap.size=m.heap.size+1:=k40_;rw [xy] at M x1 ⊢;obtain ⟨s,u,O,-⟩:=Row.of_own (zs:=src) R.out (Y7_ _);subst O;have Q:Hid (Below m.heap.size m z):=hid (((Below.refl _ m).alloc (le_refl _) (.cells #[.int .i64 (-1)] 3)).trans (x1.mono y40_));have yn:m.heap.size+1<z.heap.size:=World.rowIs.lt M;obtain ⟨bp,x3⟩:∃ bp,z.heap.size=bp:=⟨_,rfl⟩;obtain ⟨g,hg⟩:∃ g,m.heap.size+1=g:=⟨_,rfl⟩;have Z:Hid (WS w (z.alloc (.cells #[.slice s src.length u,.slice (some ⟨g,0,none⟩) adj.length adj.length] 102)) bp g adj.length (.slice s src.length u) src (fun x=>if (x:Int)∈src.take 0 then -2 else -1)):=hid (by
  have E:Below z.heap.size z (z.alloc (.cells #[.slice s src.length u,.slice (some ⟨g,0,none⟩) adj.length adj.length] 102)):=(Below.refl _ z).alloc (le_refl _) _;have yr:=R.out.kept (Z7_ Q.out none) (by
   rcases (Value.slice s src.length u).ownBlock with _ | q
   ·exact .inl rfl
   ·exact .inr k40_)
  have j:∀ k,(Value.slice s src.length u).ownBlock=some k→k<m.heap.size:=fun k U=>(R.out.lt k U).2;refine ⟨?_,?_,?_,?_,?_,?_,?_,y40_,y40_,y40_⟩
  ·rw [← x3]
   exact Blk.new z _ _
  ·exact (xb.out.below Q.out y40_).below E y40_
  ·exact yr.kept (Z7_ E none) (by
    rcases (Value.slice s src.length u).ownBlock with _ | q
    ·exact .inl rfl
    ·exact .inr k40_)
  ·rw [hg] at M
   exact (NumsK.congr M fun i _=>by simp).below E
  ·exact (x9.out.trans (Q.out.mono y40_)).trans (E.mono y40_)
  ·intro e
   have:=j _ e.symm;omega
  ·intro e
   have:=j _ e.symm;omega)
 have z3:w.heap.size<g:=y40_;rw [hg];clear M x1 xf R xb x9 Q;go_wp2
 try rw [x3]
 obtain ⟨w3,E⟩:∃ w3,z.alloc (.cells #[.slice s src.length u,.slice (some ⟨g,0,none⟩) adj.length adj.length] 102)=w3:=⟨_,rfl⟩;rw [E] at Z ⊢;clear E x3 hg xy yn yw xx
 go_loopw [21] (fun r wr=>∃ k:Nat,r=.int .i64 k∧k≤src.length∧WS w wr bp g adj.length (.slice s src.length u) src (fun x=>if (x:Int)∈src.take k then -2 else -1)) (fun r _=>src.length - (intOf r).toNat)
 case atStart=>exact ⟨0,rfl,Nat.zero_le _,Z.out⟩
 case round =>
  clear Z;obtain ⟨k,rfl,U,C⟩:=hrel;have d:=hid C;have g1:=Blk.cell C.box 1;clear C;by_cases j:k<src.length
  ·have yq:(k:Int)<(src.length:Int):=by omega
   obtain ⟨J,hA,hab,D⟩:=Hcellf.out k j;subst hA;obtain ⟨q,G,x7⟩:∃ q:Nat,src.getD k 0=(q:Int)∧q<adj.length:=by
    have:=Hs.out.pt (src.getD k 0) (by simp [List.getD,j]);exact ⟨(src.getD k 0).toNat,y40_,y40_⟩
   rw [G] at D;have g2:=(d.out.below.cell (p:=J.add k) x42_).trans D;have g3:=NumsK.at d.out.ahd x7;have g4:wr.frozen? ⟨g,q,none⟩=false:=World.rowIs.frozen d.out.ahd q;have yu:(q:Int)<(adj.length:Int):=y40_;have y4:Hid (WS w (wr.setCell ⟨g,q,none⟩ (.int .i64 (-2))) bp g adj.length (.slice s src.length u) src (fun x=>if (x:Int)∈src.take (k+1) then -2 else -1)):=hid ((d.out.set q (-2)).congr fun x _=>by
     have ht:src.take (k+1)=src.take k ++ [(q:Int)]:=by
      rw [List.take_succ_eq_append_getElem j,← G];simp [List.getD,j]
     show (if x=q then (-2:Int) else if (x:Int)∈src.take k then -2 else -1)=if (x:Int)∈src.take (k+1) then -2 else -1
     rw [ht];by_cases e:x=q
     ·rw [if_pos e,if_pos (by rw [e];simp)]
     ·rw [if_neg e]
      by_cases K:(x:Int)∈src.take k
      ·rw [if_pos K,if_pos (List.mem_append.2 (.inl K))]
      ·rw [if_neg K,if_neg]
       rw [List.mem_append,List.mem_singleton,not_or];exact ⟨K,y40_⟩)
   clear D;go_wp2
   go_roundw
   case rel=>exact ⟨k+1,j41_,y40_,y4.out⟩
   exact mz_
  ·have x4:k=src.length:=by omega
   subst x4;have xj:Hid (WS w wr bp g adj.length (.slice s src.length u) (runS adj src 0).1 (runS adj src 0).2):=hid (d.out.congr fun x _=>by
    show _=if (x:Int)∈src then (-2:Int) else -1
    rw [List.take_length])
   clear d;go_wp2;clear g1
   go_loopw [8] (fun r wx=>∃ (i:Nat) (cv:Value),r=.int .i64 i∧i≤(runS adj src i).1.length∧WS w wx bp g adj.length cv (runS adj src i).1 (runS adj src i).2) (fun r _=>adj.length - (intOf r).toNat)
   case atStart=>exact ⟨0,_,rfl,Nat.zero_le _,xj.out⟩
   case round =>
    clear xj;obtain ⟨i,cv,rfl,hi,C⟩:=hrel;have d:=hid C;obtain ⟨par,x2⟩:=Yl7 Y.out Hs.out i;have W:=hid x2;have z5:=x2.len;obtain ⟨B,c1,O,-⟩:=C.row;have g1:=Blk.cell C.box 0;subst O;clear C x2;have z4:((runS adj src i).1.length:Int)≤4096:=y40_;by_cases j:i<(runS adj src i).1.length
    ·have xs:(i:Int)<((runS adj src i).1.length:Int):=by omega
     obtain ⟨yc,yg,_,ym⟩:∃ J:Addr,B=some J∧J.block<wr.heap.size∧wr.cell? (J.add i)=some (.int .i64 ((runS adj src i).1.getD i 0)):=by
      obtain ⟨A',c',e,_,yp⟩:=d.out.row;injection e with e1 K e3;subst e1;exact yp i j
     subst yg;obtain ⟨p,V,yt⟩:∃ p:Nat,cAt (runS adj src i).1 i=(p:Int)∧p<adj.length:=by
      have:=W.out.pt _ (F5_ j);exact ⟨(cAt (runS adj src i).1 i).toNat,y40_,y40_⟩
     rw [show (runS adj src i).1.getD i 0=(p:Int) from V] at ym;obtain ⟨yb,ua,yf,yh,xq,xw⟩:=X.out p yt;subst yf;have g2:=(d.out.below.cell (p:=yb.add p) (by rw [Z2_];exact yh)).trans xq;have yk:adj.getD p []=Y5_ adj (runS adj src i).1 i:=by unfold Y5_;rw [V,Int.toNat_natCast]
     rw [yk] at xw;obtain ⟨Au,cu,rfl,xz,xp⟩:=xw;have z7:((Y5_ adj (runS adj src i).1 i).length:Int)≤9223372036854775807:=by
      have h1:=xz.1;have h2:=xz.2.1;unfold maxLen at h2;omega
     have z8:(p:Int)<(adj.length:Int):=y40_;have y3:=hid xp;have Hp:=hid V;have xh:Hid (runS adj src (i+1)=Q9_ adj (runS adj src i) i (Y5_ adj (runS adj src i).1 i).length):=hid (by
      show stepS adj (runS adj src i) i=_;unfold stepS;rw [if_pos j])
     have xe:=hid (Zi1 Y.out par j W.out);have y7:=hid (fun k (h:k<(Y5_ adj (runS adj src i).1 i).length)=>Zn6 (st:=runS adj src i) h);have y1:=hid (fun k (h:k<(Y5_ adj (runS adj src i).1 i).length)=>show ∃ q:Nat,(Y5_ adj (runS adj src i).1 i).getD k 0=(q:Int)∧q<adj.length by
      have:=Y.out.pt (cAt (runS adj src i).1 i).toNat ((Y5_ adj (runS adj src i).1 i).getD k 0) (by rw [show (Y5_ adj (runS adj src i).1 i).getD k 0=(Y5_ adj (runS adj src i).1 i)[k] by simp [List.getD,h]];exact List.getElem_mem h);exact ⟨((Y5_ adj (runS adj src i).1 i).getD k 0).toNat,y40_,y40_⟩)
     have xg:Hid (WS w wr bp g adj.length (.slice (some yc) (runS adj src i).1.length c1) (Q9_ adj (runS adj src i) i 0).1 (Q9_ adj (runS adj src i) i 0).2):=d;generalize Y5_ adj (runS adj src i).1 i=arcs at *
     clear xq xp W V;go_wp2
     go_loopw [47] (fun r wx=>∃ (k:Nat) (cv:Value),r=.int .i64 k∧k≤arcs.length∧WS w wx bp g adj.length cv (Q9_ adj (runS adj src i) i k).1 (Q9_ adj (runS adj src i) i k).2) (fun r _=>arcs.length - (intOf r).toNat)
     case atStart=>exact ⟨0,_,rfl,Nat.zero_le _,xg.out⟩
     case round =>
      clear xg;obtain ⟨k,yd,rfl,U,y0⟩:=hrel;have o:=hid y0;clear y0;obtain ⟨-,z9,xm⟩:=xe.out k U;have z6:=xm.len;have h1:=Blk.cell o.out.box 0;have h2:=Blk.cell o.out.box 1;have f1:=Blk.frozen o.out.box 0;by_cases x5:k<arcs.length
      ·have yq:(k:Int)<(arcs.length:Int):=by omega
       obtain ⟨ya,ye,yi,D⟩:=y3.out k x5;subst ye;obtain ⟨q,G,x7⟩:=y1.out k x5;rw [G] at D;have h3:=(o.out.below.cell (p:=ya.add k) (by rw [Z2_];exact yi)).trans D;have h4:=NumsK.at o.out.ahd x7;have z2:wr.frozen? ⟨g,q,none⟩=false:=World.rowIs.frozen o.out.ahd q;have yu:(q:Int)<(adj.length:Int):=y40_;have xi:Hid (Q9_ adj (runS adj src i) i (k+1)=Zn5 (p:Int) (Q9_ adj (runS adj src i) i k) (q:Int)):=hid (by rw [y7.out k x5,Hp.out,G]);clear D xm G;generalize Q9_ adj (runS adj src i) i k=st at *
       obtain ⟨A3,c3,O,-⟩:=o.out.row;subst O;by_cases I:st.2 q=-1
       ·have Hx:=hid I
        rw [I] at h4;have x0:=hid (o.out.set q (p:Int));have F:=hid (x0.out.up ((Below.refl _ (wr.setCell ⟨g,q,none⟩ (.int .i64 (p:Int)))).alloc (le_refl _) (.cells #[.int .i64 (q:Int)] 3)));have k1:=Blk.cell x0.out.box 0;have yy:bp≠g:=fun e=>o.out.n3 e.symm;have X:=hid (cellN (wr.setCell ⟨g,q,none⟩ (.int .i64 (p:Int))) wr.heap.size (by simp [World.setCell]) (.int .i64 (q:Int)) 3);have y2:Hid (w.heap.size+1≤((wr.setCell ⟨g,q,none⟩ (.int .i64 (p:Int))).alloc (.cells #[.int .i64 (q:Int)] 3)).heap.size):=hid (by
         have:=F.out.below.size;have h5:=Blk.lt F.out.box;have h6:=F.out.lb;omega)
        have y8:Hid ((ints st.1).length≤4194304):=hid (by rw [Y7_];omega);clear I x0
        go_wp2_with (at_builtin;go_loud (refine X6_ rfl _ _ 28 3 (.int .i64 0) 8 rfl Tryz.underlying28 info3 rfl (w.heap.size+1) (.slice A3 st.1.length c3) (.int .i64 (q:Int)) (ints st.1) rfl F.out.own wr.heap.size rfl X.out rfl y8.out y40_ y2.out ?_))
        intro v7 w7 xv T xu;have xk:=hid (F.out.push xv T (by simpa using xu));obtain ⟨A7,L7,c7,rfl⟩:∃ A L c,v7=.slice A L c:=by
         obtain ⟨A,c,e,_⟩:=xk.out.row;exact ⟨A,_,c,e⟩
        have H:=F.out;have m1:w7.cell? ⟨bp,0,none⟩=some (.slice A3 st.1.length c3):=(World.cell?_of_block (T.block bp (Blk.lt H.box) H.n2)).trans (Blk.cell H.box 0);have m2:w7.frozen? ⟨bp,0,none⟩=false:=Blk.frozen (H.box.grown T H.n2) 0;have y6:Hid (Q9_ adj (runS adj src i) i (k+1)=(st.1 ++ [(q:Int)],updI st.2 q p)):=hid (by
         rw [xi.out];unfold Zn5;rw [Int.toNat_natCast,if_pos Hx.out])
        clear xv T xu H;go_wp2
        go_roundw
        case rel=>exact ⟨k+1,_,j41_,y40_,by rw [y6.out];exact xk.out⟩
        exact mz_
       ·have y5:Hid (Q9_ adj (runS adj src i) i (k+1)=st):=hid (by
         rw [xi.out];unfold Zn5;rw [Int.toNat_natCast,if_neg I])
        generalize st.2 q=y at *
        go_wp2
        go_roundw
        case rel=>exact ⟨k+1,_,j41_,y40_,by rw [y5.out];exact o.out⟩
        exact mz_
      ·have x4:k=arcs.length:=by omega
       subst x4;have y9:Hid (WS w wr bp g adj.length yd (runS adj src (i+1)).1 (runS adj src (i+1)).2):=hid (by rw [xh.out];exact o.out);have yo:i+1≤(runS adj src (i+1)).1.length:=by
        obtain ⟨⟨rest,hr⟩,_⟩:=xe.out arcs.length (le_refl _);rw [xh.out,hr,List.length_append];omega
       go_wp2
       go_roundw
       case rel=>exact ⟨i+1,_,j41_,yo,y9.out⟩
       exact mz_
    ·have xt:i=(runS adj src i).1.length:=by omega
     have P:finS adj src=runS adj src i:=Yu9 (Nat.le_of_eq xt.symm) adj.length y40_;have xd:=hid P;have g2:=Blk.cell d.out.box 1;have h1:=Blk.cell d.out.res 0;have h2:=Blk.cell d.out.res 1;have f1:=Blk.frozen d.out.res 0;have f2:=Blk.frozen d.out.res 1;have xs:¬ ((i:Int)<((runS adj src i).1.length:Int)):=y40_;have yx:=hid d.out.row;clear P xt;generalize runS adj src i=st at *
     obtain ⟨L,S⟩:∃ L,st.1.length=L:=⟨_,rfl⟩;have HL:=hid S;rw [S] at g1 xs j;have yz:Hid (Blk wr bp 102 #[.slice B L c1,.slice (some ⟨g,0,none⟩) adj.length adj.length]):=hid (by have:=d.out.box;rwa [S] at this);clear S;go_wp2;have P:=(d.out.res.set_ 0 (.slice B L c1)).set_ 1 (.slice (some ⟨g,0,none⟩) adj.length adj.length);have yl:Below w.heap.size w ((wr.setCell ⟨w.heap.size,0,none⟩ (.slice B L c1)).setCell ⟨w.heap.size,1,none⟩ (.slice (some ⟨g,0,none⟩) adj.length adj.length)) :=
      (d.out.below.setCell (p:=⟨w.heap.size,0,none⟩) (le_refl _) _).setCell (p:=⟨w.heap.size,1,none⟩) (le_refl _) _
     have xr:wr.grownBy ((wr.setCell ⟨w.heap.size,0,none⟩ (.slice B L c1)).setCell ⟨w.heap.size,1,none⟩ (.slice (some ⟨g,0,none⟩) adj.length adj.length)) (some w.heap.size) :=
      Yw8 (Zz1 wr w.heap.size 0 _) (Zz1 _ w.heap.size 1 _)
     generalize (wr.setCell ⟨w.heap.size,0,none⟩ (.slice B L c1)).setCell ⟨w.heap.size,1,none⟩ (.slice (some ⟨g,0,none⟩) adj.length adj.length)=w9 at *
     have k1:w9.cell? ⟨w.heap.size,0,none⟩=some (.slice B L c1):=P.cell 0;have k2:w9.cell? ⟨w.heap.size,1,none⟩=some (.slice (some ⟨g,0,none⟩) adj.length adj.length):=P.cell 1;have ys:=d.out.own.kept xr (.inr fun e=>by
      have:=(d.out.own.lt _ e).1;omega)
     have yj:NumsK w9 g adj.length st.2:=World.rowIs.of_block d.out.ahd (xr.block g (World.rowIs.lt d.out.ahd) (fun e=>by injection e with e;omega));refine bodyPost_ret (v:=.agg #[.slice B L c1,.slice (some ⟨g,0,none⟩) adj.length adj.length]) ?_ rfl ?_
     ·simp [results,Tryz.results96,go_sem,k1,k2]
     ·refine ⟨.slice B L c1,g,rfl,?_,?_,yl⟩
      ·rw [xd.out]
       have:=Row.of_own (zs:=st.1) ys (Y7_ _)
       rwa [HL.out] at this
      ·rw [xd.out]
       exact yj
open Go.Sort Go.Lib
theorem Vs7 {come:List Int} {par:Nat→Nat} {c j:Nat} {l:List Int} (h:Way come par c j l):(j<c∧l=[cAt come j])∨(c≤j∧∃ d,l=d ++ [cAt come j]∧Way come par c (par j) d):=by
 cases h with
 | start _ h=>exact .inl ⟨h,rfl⟩
 | next _ l h hw=>exact .inr ⟨h,l,rfl,hw⟩
theorem Vs8 {come:List Int} {par:Nat→Nat} {c j:Nat} {l:List Int} (h:Way come par c j l) (e:∀ j,c≤j→j<come.length→par j<j) (d:j<come.length):l.length≤j+1:=by
 induction h with
 | start _ h=>simp
 | next j l h hw ih =>
  have:=e j h d;have:=ih y40_;simp;omega
theorem Yk5 (base:Nat) (v:Value) (zs:List Int) (w:World) (c:w.ownsRow base 3 1 v (ints zs).length (ints zs)) (C:zs.length≤4096) :
  Calls Tryz.prog 125 #[v] w fun e w'=>e=.returned (.tuple #[])∧w'.ownsRow base 3 1 v (ints zs.reverse).length (ints zs.reverse)∧w.grownBy w' v.ownBlock:=by
 rcases c.2 with ⟨rfl,p⟩ | ⟨g,o,y,rfl,hb,s,z,B,h3,d⟩
 ·have x:zs=[]:=List.eq_nil_of_length_eq_zero (by simpa [Y7_] using p)
  subst x;refine (Tryz.slices_Reverse_int_empty none 0 w).mono ?_;rintro e w' ⟨rfl,u⟩;subst u;exact ⟨rfl,c,⟨rfl,rfl,rfl,le_refl _,fun _ _ _=>rfl⟩⟩
 ·have j:=Y7_ zs
  rw [j] at d ⊢;have m:=c;rw [j] at m;have r:=holds_of_blockI (ss:=zs) s (by simpa [ints] using d);refine (Tryz.slices_Reverse_int g 0 o zs w r y40_).mono ?_;rintro e w' ⟨rfl,q,rfl⟩;refine ⟨rfl,?_,?_⟩
  ·have h:=Lib.ownsRow_putRow (q:=q) (k:=zs.length) (ys:=zs.reverse) (enc:=Value.int .i64) (zs:=zs) m k40_ (le_refl _)
   rw [Y7_,List.length_reverse];simpa [ints,List.take_of_length_le] using h
  ·exact q13_
theorem Vs9 (cv:Value) (g:Nat) (adj:List (List Int)) (src come:List Int) (ah:Nat→Int) (par:Nat→Nat) (j:Nat) (l:List Int) (w:World) (hc:Row w w.heap.size cv come) (ha:NumsK w g adj.length ah) (hd:Done adj src come ah par) (Q:j<come.length) (V:Way come par src.length j l) (hn:adj.length≤4096) :
  Calls Tryz.prog 98 #[.agg #[cv,.slice (some ⟨g,0,none⟩) adj.length adj.length],.int .i64 (cAt come j)] w (GivesF w l):=by
 obtain ⟨v,C,rfl,-⟩:=hc;have xl:=hd.len;have xn:l.length≤4096:=by
  have:=Vs8 V (fun j h1 h2=>(hd.old j h1 h2).1) Q;omega
 have m:=hid hd;have Hw:=hid V;have xj:=World.rowIs.lt ha;have Y:=hid ((Below.refl w.heap.size w).alloc (le_refl _) (.cells #[.slice v come.length C,.slice (some ⟨g,0,none⟩) adj.length adj.length] 102));have Z:=hid (Blk.new w 102 #[.slice v come.length C,.slice (some ⟨g,0,none⟩) adj.length adj.length]);have Ha:=hid ha;clear ha hd V
 go_enter Tryz.func98,Tryz.ntmps98
 go_wp2
 go_loopw [1,5] (fun vp F wr=>∃ d:List Int,wr.ownsRow (w.heap.size+1) 3 1 F (ints d).length (ints d)∧Below w.heap.size w wr∧Blk wr w.heap.size 102 #[.slice v come.length C,.slice (some ⟨g,0,none⟩) adj.length adj.length]∧d.length≤l.length∧lenOf F=d.length ∧
   ((vp=.int .i64 (-2)∧d.reverse=l)∨∃ (q:Nat) (i:Nat) (W:List Int),vp=.int .i64 q∧cAt come i=(q:Int)∧i<come.length∧Way come par src.length i W∧W ++ d.reverse=l)) (fun _ F _=>l.length+1 - lenOf F)
 case atStart =>
  obtain ⟨q,u⟩:∃ q:Nat,cAt come j=(q:Int):=⟨(cAt come j).toNat,by have:=(m.out.pt _ (F5_ Q)).1;omega⟩;exact ⟨[],World.ownsRow_nil _ _ _ _,Y.out,Z.out,Nat.zero_le _,rfl,.inr ⟨q,j,l,by rw [u],u,Q,Hw.out,k40_⟩⟩
 case round =>
  clear Z Y;obtain ⟨d,x6,x2,P,xm,x5,xi⟩:=hrel;have L:=hid x6;have x:=hid x2;have xc:=hid P;have x0:=hid x5;have xq:=Blk.lt P;clear x6 x2 P x5;rcases xi with ⟨rfl,h⟩ | ⟨q,i,W,rfl,u,hi,x9,x7⟩
  ·have p:=hid h
   clear h
   go_wp2_with fail
   refine (Yk5 (w.heap.size+1) _ d wr L.out y40_).mono ?_;rintro e w2 ⟨rfl,S,x3⟩;have xb:Hid (Below w.heap.size w w2):=hid (x.out.grown x3 x.out.size (fun k s=>by have:=(L.out.lt k s).1;omega));have xf:=hid (Row.of_own (zs:=d.reverse) S (Y7_ _));have xd:=hid (fun k s=>Nat.le_trans (Nat.le_succ _) (S.lt k s).1);clear S x3;go_wp2;go_ret;exact ⟨_,rfl,by rw [← p.out];exact xf.out,xb.out,xd.out⟩
  ·have xk:q<adj.length:=by
    have:=(m.out.pt _ (F5_ hi)).2;omega
   have xo:¬ ((q:Int)=-2):=y40_;have xp:(q:Int)<(adj.length:Int):=y40_;have o:=hid (World.ownsRow.alloc L.out (.cells #[.int .i64 (q:Int)] 3));have K:=hid (cellN wr _ rfl (.int .i64 (q:Int)) 3);have N:Hid ((ints d).length≤4194304):=hid (by rw [Y7_];omega);have H:Hid (w.heap.size+1≤(wr.alloc (.cells #[.int .i64 (q:Int)] 3)).heap.size):=hid x41_;have y:=hid (x.out.alloc x.out.size (.cells #[.int .i64 (q:Int)] 3));have I:=hid (xc.out.alloc (.cells #[.int .i64 (q:Int)] 3));have B:=hid u;have xh:=hid x9;have x1:=hid x7;clear u x9 x7
   go_wp2_with (at_builtin;go_loud (refine X6_ rfl _ _ 28 3 (.int .i64 0) 8 rfl Tryz.underlying28 info3 rfl (w.heap.size+1) _ (.int .i64 (q:Int)) (ints d) rfl o.out wr.heap.size rfl K.out rfl N.out y40_ H.out ?_))
   intro v7 X T D x4;have G:Hid (Below w.heap.size w X):=hid (y.out.grown D y.out.size (fun k s=>by have:=(o.out.lt k s).1;omega));have J:Hid (Blk X w.heap.size 102 #[.slice v come.length C,.slice (some ⟨g,0,none⟩) adj.length adj.length]):=hid (I.out.grown D (fun e=>by have:=(o.out.lt _ e.symm).1;omega));have M:Hid (X.ownsRow (w.heap.size+1) 3 1 v7 (ints (d ++ [(q:Int)])).length (ints (d ++ [(q:Int)]))):=hid (by
    rw [V6_,List.length_append];exact T)
   have z:Hid (lenOf v7=(d ++ [(q:Int)]).length):=hid (by
    obtain ⟨A,c,e,_⟩:=Row.of_own (zs:=d ++ [(q:Int)]) M.out (Y7_ _);rw [e];rfl)
   have g1:=Blk.cell J.out 1;have g2:=NumsK.at (World.rowIs.of_block Ha.out (G.out.block g xj)) xk;rcases Vs7 xh.out with ⟨hs,rfl⟩ | ⟨hs,xa,rfl,x8⟩
   ·have r:ah q=-2:=by
     have:=m.out.start i hs
     rwa [B.out,Int.toNat_natCast] at this
    have h:(d ++ [(q:Int)]).reverse=l:=by rw [← x1.out,B.out];simp
    have R:(d ++ [(q:Int)]).length≤l.length:=by rw [← h];simp
    rw [r] at g2;have p:=hid h;clear T D x4 o K N H y I r h;go_wp2
    go_roundw
    case rel=>exact ⟨d ++ [(q:Int)],M.out,G.out,J.out,R,z.out,.inl ⟨rfl,p.out⟩⟩
    case measure=>rw [z.out,x0.out];simp;omega
   ·obtain ⟨a1,_,O,_⟩:=m.out.old i hs hi
    obtain ⟨E,U⟩:∃ E:Nat,cAt come (par i)=(E:Int):=⟨(cAt come (par i)).toNat,by have:=(m.out.pt _ (F5_ (show par i<come.length by omega))).1;omega⟩;have r:ah q=(E:Int):=by
     rw [B.out,Int.toNat_natCast] at O;rw [O,U]
    have h:xa ++ (d ++ [(q:Int)]).reverse=l:=by rw [← x1.out,B.out];simp
    have R:(d ++ [(q:Int)]).length≤l.length:=by rw [← h];simp
    rw [r] at g2;have p:=hid h;have xg:=hid x8;have xe:=hid U;clear T D x4 o K N H y I r h O x8 U;go_wp2
    go_roundw
    case rel=>exact ⟨d ++ [(q:Int)],M.out,G.out,J.out,R,z.out,.inr ⟨E,par i,xa,rfl,xe.out,y40_,xg.out,p.out⟩⟩
    case measure=>rw [z.out,x0.out];simp;omega
def digB (adj:List (List Int)):Bool:=decide (adj.length≤4096) && adj.all (K.okL adj.length)
theorem digB_off {adj:List (List Int)} (h:4096<(adj.length:Int)):digB adj=false:=x28_
theorem digB_miss {adj:List (List Int)} {i:Nat} (hi:i<adj.length) (h:K.okL adj.length (adj.getD i [])=false):digB adj=false:=by
 unfold digB;exact z4_
theorem digB_all {adj:List (List Int)} (h3:¬ 4096<(adj.length:Int)) (h:∀ i,i<adj.length→K.okL adj.length (adj.getD i [])=true):digB adj=true:=x36_
theorem ok_pts {n:Nat} {l:List Int} (h:K.okL n l=true):Pts n l:=by
 unfold K.okL at h;rw [Bool.and_eq_true,mayB_iff] at h;obtain ⟨⟨h1,h2⟩,h3⟩:=h;refine ⟨h1,fun x hx=>⟨(h2 x hx).1,?_⟩⟩;exact q5_
theorem Jj7 {n:Int} {l:List Int} (h:K.okL n l=true):IsSet l:=by
 unfold K.okL at h;rw [Bool.and_eq_true,mayB_iff] at h;exact h.1
theorem pts_ok {n:Nat} {l:List Int} (e:n≤4096) (h:Pts n l):K.okL n l=true:=by
 unfold K.okL;rw [Bool.and_eq_true,mayB_iff];refine ⟨⟨h.up,fun x d=>by have:=h.pt x d;unfold Fit;omega⟩,?_⟩;rcases Nat.eq_zero_or_pos l.length with c | c
 ·rw [decide_eq_true c];rfl
 ·rw [Bool.or_eq_true]
  right;refine decide_eq_true ?_;rw [show l.getD (l.length - 1) 0=l[l.length - 1]'y40_ by simp [List.getD,show l.length - 1<l.length by omega]];exact (h.pt _ (List.getElem_mem _)).2
theorem digB_dig {adj:List (List Int)} (h:digB adj=true):Dig adj∧adj.length≤4096:=by
 unfold digB at h;rw [Bool.and_eq_true,decide_eq_true_iff,List.all_eq_true] at h;have d:∀ x,Pts adj.length (adj.getD x []):=fun x=>by
  rcases Nat.lt_or_ge x adj.length with c | c
  ·rw [show adj.getD x []=adj[x] by simp [List.getD,c]]
   exact ok_pts (h.2 _ (List.getElem_mem c))
  ·rw [List.getD_eq_getElem?_getD,List.getElem?_eq_none c]
   exact ⟨List.Pairwise.nil,fun y e=>by simp at e⟩
 exact ⟨⟨fun x=>(d x).up,fun x=>(d x).pt⟩,h.1⟩
theorem Xq6 (n:Nat) (v:Value) (l:List Int) (w:World) (r:Row w w.heap.size v l) :
  Calls Tryz.prog 95 #[.int .i64 n,v] w (Says w (K.okL n l)):=by
 have g:=hid r;obtain ⟨A,c,rfl,hcap,q⟩:=r;have u:=hid q;have B:(l.length:Int)≤9223372036854775807:=x6_;clear q hcap;rcases hm:mayB l with _ | _
 ·have d:=hid hm
  clear hm;rw [Ze7 d.out]
  go_enter Tryz.func95,Tryz.ntmps95
  go_wp2_with fail
  refine (mayset_is _ l false d.out _ g.out).mono ?_;exact x38_
 ·have d:=hid hm
  clear hm;by_cases j:l.length=0
  ·rw [T0_ d.out j]
   have z:l=[]:=List.eq_nil_of_length_eq_zero j;subst z
   go_enter Tryz.func95,Tryz.ntmps95
   go_wp2_with fail
   refine (mayset_is _ [] true d.out _ g.out).mono ?_;exact x38_
  ·obtain ⟨x,m⟩:∃ x,l.getD (l.length - 1) 0=x:=⟨_,rfl⟩
   obtain ⟨al,y,halb,h⟩:=u.out (l.length - 1) y40_;have o:=hid (M0_ (right:=(n:Int)) d.out y40_ m);rw [m] at h;subst y;obtain ⟨L,k⟩:∃ L,l.length=L:=⟨_,rfl⟩;rw [k] at h B j g;have hL0:¬ ((L:Int)=0):=y40_;have C:(0:Int)<(L:Int):=y40_;have D:(1:Int)≤(L:Int):=y40_;have E:IntKind.i64.wrap ((L:Int) - 1)=(L:Int) - 1:=y41_;have F:(0:Int)≤(L:Int) - 1:=y40_;have G:(L:Int) - 1<(L:Int):=y40_;have H:((L:Int) - 1).toNat=L - 1:=y40_;have Hcx:=hid h;rw [k];clear m h k;by_cases s:x<(n:Int)
   ·rw [o.out,decide_eq_true s]
    go_enter Tryz.func95,Tryz.ntmps95
    go_wp2_with fail
    refine (mayset_is _ l true d.out _ g.out).mono ?_;exact z38_
   ·rw [o.out,decide_eq_false s]
    go_enter Tryz.func95,Tryz.ntmps95
    go_wp2_with fail
    refine (mayset_is _ l true d.out _ g.out).mono ?_;exact y6_
theorem K6_ (n:Nat) (v:Value) (l:List Int) (b:Bool) (h:K.okL n l=b) (w:World) (c:Row w w.heap.size v l) :
  Calls Tryz.prog 95 #[.int .i64 n,v] w (Says w b):=by
 subst h;exact Xq6 n v l w c
theorem Vc3 (v:Value) (adj:List (List Int)) (w:World) (E:Rows2 w w.heap.size v adj) :
  Calls Tryz.prog 94 #[v] w (Says w (digB adj)):=by
 obtain ⟨A,c,rfl,G,o⟩:=E;have z:=hid o;clear o;by_cases k:4096<(adj.length:Int)
 ·rw [digB_off k]
  go_enter Tryz.func94,Tryz.ntmps94
  exact y4_
 have Hall:=hid (fun h=>digB_all (adj:=adj) k h)
 go_enter Tryz.func94,Tryz.ntmps94
 go_wp2
 go_loopw [10] (fun d wr=>∃ i:Nat,d=.int .i64 i∧i≤adj.length∧Below w.heap.size w wr∧∀ j,j<i→K.okL adj.length (adj.getD j [])=true) (fun d _=>adj.length - (intOf d).toNat)
 case atStart=>exact ⟨0,rfl,Nat.zero_le _,Below.refl _ _,fun j r=>absurd r (Nat.not_lt_zero _)⟩
 case round =>
  obtain ⟨i,rfl,H,m,x⟩:=hrel;have Hbr:=hid m;have Hok:=hid x;clear m x;by_cases s:i<adj.length
  ·have I:(i:Int)<(adj.length:Int):=by omega
   obtain ⟨C,u,D,hab,q,y⟩:=z.out i s;subst D;have F:=(Hbr.out.cell (p:=C.add i) x42_).trans q;have g:=hid ((y.below Hbr.out).mono Hbr.out.size);have B:=hid (fun h=>digB_miss s h);have Hnext:Hid (K.okL adj.length (adj.getD i [])=true→∀ j,j<i+1→K.okL adj.length (adj.getD j [])=true):=hid fun h j r=>x11_;clear q hab Hok y;generalize adj.getD i []=l at *
   rcases hm:K.okL adj.length l with _ | _
   ·have Hm:=hid hm
    rw [B.out hm];clear hm
    go_wp2_with fail
    refine (K6_ adj.length _ l false Hm.out _ g.out).mono ?_;exact q38_
   ·have Hm:=hid hm
    clear hm
    go_wp2_with fail
    refine (K6_ adj.length _ l true Hm.out _ g.out).mono ?_;exact k11_
  ·exact j6_
theorem Zt7 (v:Value) (adj:List (List Int)) (b:Bool) (h:digB adj=b) (w:World) (c:Rows2 w w.heap.size v adj) :
  Calls Tryz.prog 94 #[v] w (Says w b):=by
 subst h;exact Vc3 v adj w c
theorem Jj8 (a b:Value) (w:World):Sem.run Tryz.prog (Instr.field 102 (.agg #[a,b]) 0) w=.ok a w:=by
 kernel_rfl
def goodB (adj:List (List Int)) (src:List Int):Bool:=digB adj && K.okL adj.length src
def fromL (adj:List (List Int)) (src:List Int):List Int:=if goodB adj src then sortL (finS adj src).1 else []
theorem Vc4 {adj:List (List Int)} {src:List Int} (h:digB adj=false):goodB adj src=false:=by unfold goodB;rw [h];rfl
theorem Vc5 {adj:List (List Int)} {src:List Int} (h:K.okL adj.length src=false):goodB adj src=false:=by unfold goodB;rw [h,Bool.and_false]
theorem good_yes {adj:List (List Int)} {src:List Int} (c:digB adj=true) (h2:K.okL adj.length src=true):goodB adj src=true:=by unfold goodB;rw [c,h2];rfl
theorem from_far (v vf:Value) (adj:List (List Int)) (src:List Int) (w:World) (F:Rows2 w w.heap.size v adj) (S:Row w w.heap.size vf src) :
  Calls Tryz.prog 69 #[v,vf] w (GivesF w (fromL adj src)):=by
 have r:=hid F;have z:=hid S;obtain ⟨A,c,rfl,_⟩:=F;rcases h1:digB adj with _ | _
 ·have o:=hid h1
  have h:fromL adj src=[]:=by unfold fromL;rw [Vc4 h1];rfl
  rw [h];clear h1 h
  go_enter Tryz.func69,Tryz.ntmps69
  go_wp2_with fail
  refine (Zt7 _ adj false o.out w r.out).mono ?_;rintro e s ⟨rfl,d⟩;have k:=hid d;clear d;go_wp2;go_ret;exact ⟨_,rfl,Row.nil_ _ _,k.out,fun g m=>by cases m⟩
 ·have o:=hid h1
  rcases h2:K.okL adj.length src with _ | _
  ·have u:=hid h2
   have h:fromL adj src=[]:=by unfold fromL;rw [Vc5 h2];rfl
   rw [h];clear h1 h2 h
   go_enter Tryz.func69,Tryz.ntmps69
   go_wp2_with fail
   refine (Zt7 _ adj true o.out w r.out).mono ?_;rintro e s ⟨rfl,d⟩;have k:=hid d;have q:=hid (z.out.up d);clear d
   go_wp2_with fail
   refine (K6_ adj.length _ src false u.out s q.out).mono ?_;rintro e I ⟨rfl,j⟩;have x:=hid (Z0_ k.out (le_refl _) j);clear j;go_wp2;go_ret;exact ⟨_,rfl,Row.nil_ _ _,x.out,fun g m=>by cases m⟩
  ·have u:=hid h2
   have h:fromL adj src=sortL (finS adj src).1:=by unfold fromL;rw [good_yes h1 h2];rfl
   rw [h];have p:=hid (digB_dig h1);have B:=hid (ok_pts h2);have N:Hid ((finS adj src).1.length≤2097152):=hid (by
    obtain ⟨par,hd⟩:=fin_done p.out.1 B.out;have:=hd.len;have:=p.out.2;omega)
   clear h1 h2 h
   go_enter Tryz.func69,Tryz.ntmps69
   go_wp2_with fail
   refine (Zt7 _ adj true o.out w r.out).mono ?_;rintro e s ⟨rfl,d⟩;have k:=hid d;have q:=hid (z.out.up d);have O:=hid (r.out.up d);clear d
   go_wp2_with fail
   refine (K6_ adj.length _ src true u.out s q.out).mono ?_;rintro e I ⟨rfl,j⟩;have x:=hid (Z0_ k.out (le_refl _) j);have M:=hid (q.out.up j);have P:=hid (O.out.up j);clear j
   go_wp2_with fail
   refine (Zg8 _ _ adj src I P.out M.out p.out.1 B.out p.out.2).mono ?_;rintro e V ⟨cv,g,rfl,H,_,C⟩;have y:=hid (Z0_ x.out (le_refl _) C);have R:=hid H;have U:=fun W=>Jj8 cv (.slice (some ⟨g,0,none⟩) adj.length adj.length) W;clear C H
   go_wp2_with fail
   refine (Ys1 _ _ _ R.out N.out).mono ?_;rintro e X ⟨T,rfl,G,D,E⟩;have J:Hid (∀ g,T.ownBlock=some g→w.heap.size≤g):=hid fun g m=>Nat.le_trans y.out.size (E g m);have Q:=hid G;have L:=hid (Z0_ y.out (le_refl _) D);clear D G E;go_wp2;go_ret;exact ⟨_,rfl,Q.out,L.out,J.out⟩
theorem Yb1 (v:Value) (l:List Int) (x:Int) (b:Bool) (hb:l.contains x=b) (w:World) (m:Row w w.heap.size v l) (hs:IsSet l) (hl:l.length≤1048576) :
  Calls Tryz.prog 97 #[v,.int .i64 x] w fun e w'=>∃ k:Int,e=.returned (.tuple #[.int .i64 k,.bool b])∧Below w.heap.size w w':=by
 subst hb;obtain ⟨A,c,rfl,p,g⟩:=m;by_cases d:l.length=0
 ·have j:l=[]:=List.eq_nil_of_length_eq_zero d
  subst j;refine (Tryz.slices_BinarySearch_int_empty A c x w).mono ?_;rintro e w' ⟨rfl,rfl⟩;exact ⟨0,rfl,Below.refl _ _⟩
 ·obtain ⟨b,o,rfl,_,hc⟩:=Yt7 y40_ g
  have h:=Tryz.slices_BinarySearch_int b o l.length c l x w (le_refl _) y40_ hc (by rw [List.take_length];exact hs.1.imp fun h=>Int.le_of_lt h);rw [List.take_length] at h;refine h.mono ?_;rintro e w' ⟨rfl,q,rfl⟩;exact ⟨_,rfl,Y2_ (Below.refl _ _) q⟩
def PathOK (adj:List (List Int)) (src dst:List Int) (l:List Int) (b:Bool):Prop :=
 ((goodB adj src && K.okL adj.length dst)=false∧b=false∧l=[])∨((goodB adj src && K.okL adj.length dst)=true ∧
  ((b=false∧l=[]∧∀ x∈(finS adj src).1,x∉dst)∨(b=true∧∃ j,j<(finS adj src).1.length∧cAt (finS adj src).1 j∈dst∧(∀ i,i<j→cAt (finS adj src).1 i∉dst)∧∃ par,Done adj src (finS adj src).1 (finS adj src).2 par∧Way (finS adj src).1 par src.length j l)))
def PathF (w:World) (adj:List (List Int)) (src dst:List Int) (e:Ending) (w':World):Prop :=
 ∃ (v:Value) (l:List Int) (b:Bool),e=.returned (.tuple #[v,.bool b])∧Row w' w'.heap.size v l∧Below w.heap.size w w'∧PathOK adj src dst l b∧∀ g,v.ownBlock=some g→w.heap.size≤g
theorem path_inF (v vf vt:Value) (adj:List (List Int)) (src dst:List Int) (w:World) (hr:Rows2 w w.heap.size v adj) (hf:Row w w.heap.size vf src) (ht:Row w w.heap.size vt dst) (N:digB adj=true) (h2:K.okL adj.length src=true) (h3:K.okL adj.length dst=true) :
  Calls Tryz.prog 67 #[v,vf,vt] w (PathF w adj src dst):=by
 have Hr:=hid hr;have Hf:=hid hf;have Ht:=hid ht;obtain ⟨A,c,rfl,_⟩:=hr;have H1:=hid N;have H2:=hid h2;have H3:=hid h3;have Hg:Hid ((goodB adj src && K.okL adj.length dst)=true):=hid (by rw [good_yes N h2,h3];rfl);have I:=hid (digB_dig N);have x6:=hid (ok_pts h2);have x7:=hid (Jj7 h3);obtain ⟨par,Y⟩:=fin_done I.out.1 x6.out;have J:=hid Y;have xg:=Y.len;have y9:=I.out.2;have x3:Hid (dst.length≤1048576):=hid (by
  have:=nodup_le (b:=(List.range adj.length).map Int.ofNat) ((ok_pts h3).up.imp fun hab e=>by omega) fun x o=>by
   have:=(ok_pts h3).pt x o;exact x15_
  rw [List.length_map,List.length_range] at this;omega)
 clear N h2 h3 Y
 go_enter Tryz.func67,Tryz.ntmps67
 go_wp2_with fail
 refine (Zt7 _ adj true H1.out w Hr.out).mono ?_;rintro e w1 ⟨rfl,z⟩;have xm:=hid z;have x4:=hid (Hf.out.up z);have y3:=hid (Ht.out.up z);have xx:=hid (Hr.out.up z);clear z
 go_wp2_with fail
 refine (K6_ adj.length _ src true H2.out w1 x4.out).mono ?_;rintro e w2 ⟨rfl,B⟩;have xn:=hid (Z0_ xm.out (le_refl _) B);have xs:=hid (x4.out.up B);have x8:=hid (y3.out.up B);have xy:=hid (xx.out.up B);clear B
 go_wp2_with fail
 refine (K6_ adj.length _ dst true H3.out w2 x8.out).mono ?_;rintro e w3 ⟨rfl,C⟩;have xo:=hid (Z0_ xn.out (le_refl _) C);have xt:=hid (xs.out.up C);have y4:=hid (x8.out.up C);have xz:=hid (xy.out.up C);clear C
 go_wp2_with fail
 refine (Zg8 _ _ adj src w3 xz.out xt.out I.out.1 x6.out I.out.2).mono ?_;rintro e E ⟨cv,g,rfl,x0,xb,X⟩;have xp:=hid (Z0_ xo.out (le_refl _) X);have y5:=hid (y4.out.up X);have T:=hid x0;have x2:=hid xb;obtain ⟨F,M,y6,-⟩:=id x0;subst y6;clear X x0 xb;obtain ⟨st,x1⟩:∃ st,finS adj src=st:=⟨_,rfl⟩;rw [x1] at J T x2 xg ⊢;have q:=hid x1;clear x1;obtain ⟨L,W⟩:∃ L,st.1.length=L:=⟨_,rfl⟩;have G:=hid W;have ya:L≤4096:=y40_;rw [W];have O:=Blk.new E 102 #[.slice F L M,.slice (some ⟨g,0,none⟩) adj.length adj.length];obtain ⟨d,Q⟩:∃ d,E.alloc (.cells #[.slice F L M,.slice (some ⟨g,0,none⟩) adj.length adj.length] 102)=d:=⟨_,rfl⟩;have HW:=hid Q;have y:Hid (Below E.heap.size E d):=hid (by rw [← Q];exact (Below.refl _ E).alloc (le_refl _) _);rw [Q] at O;have H:=hid O;have k1:=Blk.cell O 0;clear O Q W xg;go_wp2;rw [HW.out];have y1:Hid (∀ k,k<L→∃ u:Addr,F=some u∧u.block<d.heap.size∧d.cell? (u.add k)=some (.int .i64 (cAt st.1 k))):=hid (by
  obtain ⟨A',c',e,_,hk⟩:=T.out.up y.out;injection e with e1 e2 e3;subst e1;intro k y8;exact hk k (by rw [G.out];exact y8))
 have x9:=hid (y5.out.up y.out);have xl:=hid (x2.out.below y.out);have y2:Hid (Row d d.heap.size (.slice F L M) st.1):=hid (by have:=T.out.up y.out;rwa [G.out] at this);have R:=hid (Z0_ xp.out (le_refl _) y.out);clear k1
 go_loopw [36] (fun vi wr=>∃ i:Nat,vi=.int .i64 i∧i≤L∧Below d.heap.size d wr∧∀ m,m<i→cAt st.1 m∉dst) (fun vi _=>L - (intOf vi).toNat)
 case atStart=>exact ⟨0,rfl,Nat.zero_le _,Below.refl _ _,fun m P=>absurd P (Nat.not_lt_zero _)⟩
 case round =>
  obtain ⟨i,rfl,hi,xd,xi⟩:=hrel;have r:=hid xd;have S:=hid xi;clear xd xi;by_cases xh:i<L
  ·have yb:(i:Int)<(L:Int):=by omega
   obtain ⟨u,hA,hab,xe⟩:=y1.out i xh;subst hA;have V:=(r.out.cell (p:=u.add i) x42_).trans xe;have xw:Hid (cAt st.1 i∉dst→∀ m,m<i+1→cAt st.1 m∉dst):=hid fun h m P=>by
    by_cases e:m=i
    ·rw [e];exact h
    ·exact S.out m y40_
   obtain ⟨x,o⟩:∃ x,cAt st.1 i=x:=⟨_,rfl⟩;rw [o] at V;have U:=hid o;clear xe o;rcases hc:dst.contains x with _ | _
   ·have s:=hid hc
    clear hc
    go_wp2_with fail
    refine (Yb1 _ dst x false s.out wr (x9.out.up r.out) x7.out x3.out).mono ?_;rintro e w6 ⟨kk,rfl,D⟩;have j:=hid (Z0_ r.out (le_refl _) D);have xv:Hid (∀ m,m<i+1→cAt st.1 m∉dst):=hid (xw.out (by
     rw [U.out];intro h;rw [List.contains_iff_mem.2 h] at s;exact absurd s.out q41_))
    clear D V;go_wp2
    go_roundw
    case rel=>exact ⟨i+1,j41_,y40_,j.out,xv.out⟩
    exact mz_
   ·have s:=hid hc
    clear hc
    go_wp2_with fail
    refine (Yb1 _ dst x true s.out wr (x9.out.up r.out) x7.out x3.out).mono ?_;rintro e w6 ⟨kk,rfl,D⟩;have j:=hid (Z0_ r.out (le_refl _) D);have Z:i<st.1.length:=by rw [G.out];exact xh
    obtain ⟨l,xk⟩:=Jq1 J.out i Z;have xa:=hid xk;have x5:=hid Z;have b1:=Blk.cell (H.out.below j.out (Blk.lt H.out)) 0;have b2:=Blk.cell (H.out.below j.out (Blk.lt H.out)) 1;clear D V xk Z
    go_wp2_with fail
    rw [← U.out];refine (Vs9 (.slice (some u) L M) g adj src st.1 st.2 par i l w6 (y2.out.up j.out) (xl.out.below j.out) J.out x5.out xa.out y9).mono ?_;rintro e w7 ⟨v7,rfl,xj,xc,xf⟩;have y0:=hid xj;have xu:=hid (fun k hk=>Nat.le_trans (Z0_ R.out (le_refl _) j.out).size (xf k hk));have xq:=hid (Z0_ (Z0_ R.out (le_refl _) j.out) (le_refl _) xc);clear xj xc xf b1 b2;go_wp2
    go_ret2
    exact ⟨_,_,_,rfl,y0.out,xq.out,.inr ⟨Hg.out,.inr ⟨rfl,i,by rw [q.out];exact x5.out,by rw [q.out,U.out];exact List.contains_iff_mem.1 s.out,by rw [q.out];exact S.out,par,by rw [q.out];exact J.out,by rw [q.out];exact xa.out⟩⟩,xu.out⟩
  ·have y7:i=L:=by omega
   subst y7;have xr:=hid (Z0_ R.out (le_refl _) r.out);go_wp2
   go_ret2
   exact ⟨_,_,_,rfl,Row.nil_ _ _,xr.out,.inr ⟨Hg.out,.inl ⟨rfl,rfl,fun x o=>by
    rw [q.out] at o;obtain ⟨m,P,rfl⟩:=Zi0 o;exact S.out m (by rw [← G.out];exact P)⟩⟩,fun g hg=>by cases hg⟩
end Go.Proofs.YtigobiacbficaaaGreatDoor.Wp.R
namespace Go.Proofs.YtigobiacbficaaaGreatDoor.Wp
open Go.RowKit
section
variable {adj:List (List Int)} {src dst:List Int}
theorem pts_R {n:Nat} {l:List Int} (h:PtsP n l):R.Pts n l:=⟨h.1.1,h.2⟩
theorem okL_R {n:Nat} {l:List Int} (c:n≤4096) (h:PtsP n l):K.okL n l=true:=R.pts_ok c (pts_R h)
theorem dig_R (h:DigP adj):R.digB adj=true :=
 R.digB_all (by have:=h.1;omega) fun i _=>okL_R h.1 ⟨(h.2 i).1,(h.2 i).2⟩
theorem Vt0 (hd:DigP adj) (hs:PtsP adj.length src):R.fromL adj src=itL adj src adj.length:=by
 have e:=dig_R hd;have h2:=okL_R hd.1 hs;obtain ⟨par,h⟩:=R.fin_done (R.digB_dig e).1 (R.ok_pts h2);unfold R.fromL;rw [R.good_yes e h2,if_pos rfl];refine IsSet.ext (J8_ _) (Q2_ hd hs _).1 fun x=>?_;rw [G7_];constructor
 ·rintro ⟨c,_⟩
  exact h.least (fun x=>x∈itL adj src adj.length) (fun x c=>Zs7 hd hs _ x c) (fun x y _ c d=>P9_ hd hs c d) x c
 ·intro c
  have f:∀ k x,x∈itL adj src k→x∈(R.finS adj src).1:=by
   intro k
   induction k with
   | zero=>exact fun x c=>h.has c
   | succ k ih =>
    intro x c;rcases ((B0_ hd (Q2_ hd hs k)).2 x).1 c with c | ⟨y,d,c⟩
    ·exact ih x c
    ·exact h.closed (ih y d) c
  have:=(Q2_ hd hs _).1.2 x c;exact ⟨f _ x c,this⟩
theorem Zg9 {come:List Int} {ah:Nat→Int} {par:Nat→Nat} (h:R.Done adj src come ah par):∀ n x,x∈come→Near adj dst n x→∃ y∈come,y∈dst
 | 0,x,hx,c=>⟨x,hx,c⟩
 | n+1,x,hx,c=>by
  rcases c with c | ⟨y,d,c⟩
  ·exact Zg9 h n x hx c
  ·exact Zg9 h n y (h.closed hx d) c
theorem Xo8 (hd:DigP adj) (hs:PtsP adj.length src) (r:PtsP adj.length dst) {l:List Int} {b:Bool} (h:R.PathOK adj src dst l b) :
  (b=true∧∃ n x e,l=x :: e∧Greedy adj dst src n (x :: e))∨(b=false∧l=[]∧∀ y∈src,∀ k,¬ Near adj dst k y):=by
 have m:=dig_R hd;have h2:=okL_R hd.1 hs;have h3:=okL_R hd.1 r;rcases h with ⟨g,_⟩ | ⟨_,⟨rfl,rfl,f⟩ | ⟨rfl,j,p,o,f,par,c,s⟩⟩
 ·rw [R.good_yes m h2,h3] at g
  cases g
 ·obtain ⟨par,c⟩:=R.fin_done (R.digB_dig m).1 (R.ok_pts h2)
  refine .inr ⟨rfl,rfl,fun y u k q=>?_⟩;obtain ⟨z,v,w⟩:=Zg9 c k y (c.has u) q;exact f z v w
 ·obtain ⟨n,d⟩:=R.greedy_first c (R.ok_pts h2).up p o f s
  have hl:=d.length
  match l,d,hl with
  | x :: e,d,_=>exact .inl ⟨rfl,n,x,e,rfl,d⟩
end
theorem Zt8 (v vf vt:Value) (adj:List (List Int)) (src dst:List Int) (w:World) (o:Rows2 w w.heap.size v adj) (c:Row w w.heap.size vf src) (p:Row w w.heap.size vt dst) (hd:DigP adj) (hs:PtsP adj.length src) (d:PtsP adj.length dst) :
  Calls Tryz.prog 67 #[v,vf,vt] w fun e w'=>∃ (u:Value) (l:List Int) (b:Bool),e=.returned (.tuple #[u,.bool b])∧Row w' w'.heap.size u l∧Below w.heap.size w w'∧(∀ g,u.ownBlock=some g→w.heap.size≤g) ∧
   ((b=true∧∃ n x h,l=x :: h∧Greedy adj dst src n (x :: h))∨(b=false∧l=[]∧∀ y∈src,∀ k,¬ Near adj dst k y)) :=
 (R.path_inF v vf vt adj src dst w o c p (dig_R hd) (okL_R hd.1 hs) (okL_R hd.1 d)).mono fun _ _ ⟨u,l,b,j,q,hb,m,c⟩=>⟨u,l,b,j,q,hb,c,Xo8 hd hs d m⟩
theorem Zt9 (v vf:Value) (adj:List (List Int)) (src:List Int) (w:World) (d:Rows2 w w.heap.size v adj) (c:Row w w.heap.size vf src) (hd:DigP adj) (hs:PtsP adj.length src) :
  Calls Tryz.prog 69 #[v,vf] w (GivesF w (itL adj src adj.length)):=by
 rw [← Vt0 hd hs];exact R.from_far v vf adj src w d c
end Go.Proofs.YtigobiacbficaaaGreatDoor.Wp
