/- Whether these are several matroids: union's own answer, walked (written by gen_usev.py). -/
import Derived.Test.YtheeajnkiniopaaGreatDoorUCls
import Derived.Test.YtheeajnkiniopaaGreatDoorZE
import Derived.Test.YtheeajnkiniopaaGreatDoorQWalkC
import Derived.Test.YtheeajnkiniopaaGreatDoorZI
import Derived.Test.YtheeajnkiniopaaGreatDoorZR
import Derived.Test.YtheeajnkiniopaaGreatDoorZT
import Derived.Deep.Slices
import Derived.Test.YtheeajnkiniopaaGreatDoorX0A
import Derived.Test.YtheeajnkiniopaaGreatDoorX0B
set_option maxHeartbeats 8000000
set_option maxRecDepth 100000
open Go.Lib (hid)
open Nat (le_refl)
namespace Go.Proofs.YtheeajnkiniopaaGreatDoor.Wp
open Go Go.RowKit
def oddM (ms:List Mat) (m:Mat):Bool:=!(m.n==(ms.getD 0 default).n) || !(chk m==0)
def sevB (ms:List Mat):Bool:=decide (1≤ms.length) && (decide (ms.length≤8) && !(ms.any (oddM ms)))
theorem sev_iff {ms:List Mat}:sevB ms=true↔Several ms (nN (ms.getD 0 default))∧∀ k,k<ms.length→(ms.getD k default).n=(ms.getD 0 default).n:=by
 unfold sevB;rw [Bool.and_eq_true,Bool.and_eq_true,decide_eq_true_iff,decide_eq_true_iff,Bool.not_eq_true',List.any_eq_false];have g:(∀ x∈ms,¬ oddM ms x=true)↔∀ k,k<ms.length→chk (ms.getD k default)=0∧(ms.getD k default).n=(ms.getD 0 default).n:=by
  constructor
  ·intro h k c
   have:=h _ (show ms.getD k default∈ms by rw [List.getD_eq_getElem?_getD,List.getElem?_eq_getElem c];exact List.getElem_mem c);unfold oddM at this;simp only [Bool.or_eq_true,Bool.not_eq_true',not_or,beq_eq_false_iff_ne,ne_eq,Decidable.not_not] at this;exact ⟨this.2,this.1⟩
  ·intro h x f
   obtain ⟨k,c,rfl⟩:=List.mem_iff_getElem.1 f;have:=h k c;rw [show ms.getD k default=ms[k] by simp [List.getD,c]] at this;unfold oddM;simp only [Bool.or_eq_true,Bool.not_eq_true',not_or,beq_eq_false_iff_ne,ne_eq,Decidable.not_not];exact ⟨this.2,this.1⟩
 rw [g];constructor
 ·rintro ⟨d,e,h3⟩
  exact ⟨⟨⟨q40_,e⟩,fun k c=>⟨(h3 k c).1,by unfold nN;rw [(h3 k c).2]⟩⟩,fun k c=>(h3 k c).2⟩
 ·rintro ⟨⟨d,e⟩,h3⟩
  exact ⟨d.1,d.2,fun k c=>⟨(e k c).1,h3 k c⟩⟩
def Yp7 (w:World) (g:Nat) (lb:Array Value) (P:Mat→Bool) (ms:List Mat):Prop :=
 ∀ (u:Value) (m:Mat) (W:World),m∈ms→Below w.heap.size w W→MatV W W.heap.size u m→Calls Tryz.prog g (#[u] ++ lb) W fun e W'=>e=.returned (.bool (P m))∧Below W.heap.size W W'
theorem Xy8 (g:Nat) (I:Array Value) (P:Mat→Bool) (v:Value) (ms:List Mat) (w:World) (L:∀ args w,(callFunc g args).run Tryz.prog w=.ok (.enter g args) w) (q:MatL w w.heap.size v ms) (hl:ms.length≤1048576) (G:Yp7 w g I P ms) :
  Calls Tryz.prog 84 #[v,.func (.func g) #[] I] w fun e w'=>∃ r,e=.returned (.int .i64 r)∧Found P default ms r∧Below w.heap.size w w':=by
 have J:=hid q;obtain ⟨A,c,rfl,_⟩:=id q;have y:=hid G;have N:(ms.length:Int)≤1048576:=q40_;clear q G
 go_enter Tryz.func84,Tryz.ntmps84
 go_wp2
 go_loopw [8] (fun u wr=>∃ k:Nat,u=.int .i64 k∧k≤ms.length∧Below w.heap.size w wr∧∀ j,j<k→P (ms.getD j default)=false) (fun u _=>ms.length - (intOf u).toNat)
 case atStart=>exact ⟨0,rfl,Nat.zero_le _,Below.refl _ _,fun j D=>absurd D (Nat.not_lt_zero _)⟩
 case round =>
  obtain ⟨k,rfl,M,hb,H⟩:=hrel;have Hb:=hid hb;have Hz:=hid H;clear H;by_cases hlt:k<ms.length
  ·obtain ⟨K,d,R,Q,B,F,C⟩:=J.out.one hlt
   obtain rfl:A=some K:=(Value.slice.inj B).1;obtain ⟨q0,q1,q2,q3,q4,q5⟩:=C wr hb;have E:ms.getD k default∈ms:=q43_;have h:=hid (y.out _ (ms.getD k default) _ E Hb.out (F.up hb));have O:(k:Int)<(ms.length:Int):=q40_;obtain ⟨x,s⟩:∃ x,x=ms.getD k default:=⟨_,rfl⟩;rw [← s] at h q0 q1 q2 q3;have z:=hid s;clear s hb F C E B y;rcases hq:P x with _ | _
   ·rw [hq] at h
    have p:=hid hq;clear hq
    go_wp2_with fail
    refine (h.out).mono ?_;rintro e w' ⟨rfl,m⟩;have o:=hid (Hb.out.trans (m.mono Hb.out.size));clear m q0 q1 q2 q3 q4 q5;go_wp2
    go_roundw
    case rel =>
     refine ⟨k+1,x41_,q40_,o.out,fun j D=>?_⟩;by_cases e:j=k
     ·rw [e,← z.out]
      exact p.out
     ·exact Hz.out j q40_
    case measure=>simp [intOf];omega
   ·rw [hq] at h
    have p:=hid hq;clear hq
    go_wp2_with fail
    refine (h.out).mono ?_;rintro e w' ⟨rfl,m⟩;have o:=hid (Hb.out.trans (m.mono Hb.out.size));clear m q0 q1 q2 q3 q4 q5;go_wp2;go_ret;exact ⟨_,rfl,.inr ⟨k,hlt,rfl,by rw [← z.out];exact p.out,Hz.out⟩,o.out⟩
  ·have hke:k=ms.length:=by omega
   exact x17_
theorem Zr9 (g:Nat) (d:Array Value) (P:Mat→Bool) (v:Value) (ms:List Mat) (w:World) (j:∀ args w,(callFunc g args).run Tryz.prog w=.ok (.enter g args) w) (m:MatL w w.heap.size v ms) (hl:ms.length≤1048576) (o:Yp7 w g d P ms) :
  Calls Tryz.prog 59 #[v,.func (.func g) #[] d] w (Says w (ms.any P)):=by
 have q:=hid (Xy8 g d P v ms w j m hl o);obtain ⟨A,c,rfl,_⟩:=m;clear hl o j
 go_enter Tryz.func59,Tryz.ntmps59
 go_wp2_with fail
 refine q.out.mono ?_;rintro e s ⟨r,rfl,k,hb⟩;have h:=hid (Zb8 k);have p:=hid hb;clear k hb;go_wp2;go_ret;exact ⟨by first | rfl | (rw [h.out];rfl) | (rw [← h.out];rfl),p.out⟩
theorem Vn9 (E:Nat→Addr) (ms:List Mat) (j d:Nat) (g:Addr) (w:World) (K:Env E w) (h0:0<ms.length) (hs:∀ m∈ms,Sml m) (M:j<w.heap.size) (L:g.block<w.heap.size) (hc:w.cell? ⟨j,0,none⟩=some (.slice (some g) ms.length d)) (N:w.cell? ⟨g.block,g.off+1,none⟩=some (.int .i64 (ms.getD 0 default).n)) :
  Yp7 w 60 #[.pointer (some ⟨j,0,none⟩)] (oddM ms) ms:=by
 intro u m W T k B;obtain ⟨r,q,rfl,_,_⟩:=B.open;have I:=(k.cell (p:=⟨j,0,none⟩) M).trans hc;have J:=(k.cell (p:=⟨g.block,g.off+1,none⟩) L).trans N;have x0:(0:Int)<(ms.length:Int):=q40_;have D:=K.up k;have R:j<W.heap.size:=Nat.lt_of_lt_of_le M k.size;have Q:g.block<W.heap.size:=Nat.lt_of_lt_of_le L k.size;obtain ⟨c,s⟩:∃ c,c=W.alloc (.cells #[.int .i64 m.t,.int .i64 m.n,.int .i64 m.a,.int .i64 m.b,r,q] 37):=⟨_,rfl⟩;have F:=hid s;have v:Below W.heap.size W c:=by rw [s];exact (Below.refl _ W).alloc (le_refl _) _
 have G:Hid (Blk c W.heap.size 37 #[.int .i64 m.t,.int .i64 m.n,.int .i64 m.a,.int .i64 m.b,r,q]):=hid (by rw [s];exact Blk.new W _ _);have Hb0:=hid v;have O:Hid (∀ V,Below c.heap.size c V→Calls Tryz.prog 61 #[.agg #[.int .i64 m.t,.int .i64 m.n,.int .i64 m.a,.int .i64 m.b,r,q]] V fun e H=>e=.returned (.int .i64 (chk m))∧Below c.heap.size c H):=hid fun V hV=>by
  have o:=Z0_ v (le_refl _) hV;refine (C4_ E m _ V (B.up o) (hs m T) (D.up o)).mono ?_;rintro e H ⟨rfl,hb⟩;exact ⟨rfl,Z0_ hV (le_refl _) hb⟩
 have x:Hid (∀ V,Below c.heap.size c V→V.cell? ⟨W.heap.size,0,none⟩=some (.int .i64 m.t)∧V.cell? ⟨W.heap.size,1,none⟩=some (.int .i64 m.n)∧V.cell? ⟨W.heap.size,2,none⟩=some (.int .i64 m.a)∧V.cell? ⟨W.heap.size,3,none⟩=some (.int .i64 m.b)∧V.cell? ⟨W.heap.size,4,none⟩=some r∧V.cell? ⟨W.heap.size,5,none⟩=some q∧V.cell? ⟨j,0,none⟩=some (.slice (some g) ms.length d)∧V.cell? ⟨g.block,g.off+1,none⟩=some (.int .i64 (ms.getD 0 default).n)):=hid fun V hV=>by
  have h:=G.out.below hV G.out.lt;have o:=Z0_ v (le_refl _) hV;exact ⟨h.cell 0,h.cell 1,h.cell 2,h.cell 3,h.cell 4,h.cell 5,(o.cell (p:=⟨j,0,none⟩) R).trans I,(o.cell (p:=⟨g.block,g.off+1,none⟩) Q).trans J⟩
 obtain ⟨z,C⟩:∃ z,(ms.getD 0 default).n=z:=⟨_,rfl⟩;have P:=hid C;rw [C] at x;clear C I J s v hc N K D B k;show Calls Tryz.prog 60 #[.agg #[.int .i64 m.t,.int .i64 m.n,.int .i64 m.a,.int .i64 m.b,r,q],.pointer (some ⟨j,0,none⟩)] W _;unfold oddM;rw [P.out];by_cases y:m.n=z
 ·subst y
  rw [show (m.n==m.n)=true by simp]
  go_enter Tryz.func60,Tryz.ntmps60
  go_wp2;rw [← F.out];refine Z6_ c.heap.size c x40_ x40_ (Below.refl _ _) ?_
  iterate 13 (first
   | go_big_quiet_step (with_reducible exact O.out _)
   | (go_big_quiet_want;apply Exists.intro;refine ⟨fun V hV=>?_,?_⟩;(· obtain ⟨U,X,Y,Z,k4,k5,k6,k7⟩:=x.out V hV;go_simp;first | exact rfl | exact ⟨rfl,rfl⟩);go_simp;go_big_quiet_on))
  exact q17_
 ·have S:(m.n==z)=false:=by simpa using y
  have x1:(m.n != z)=true:=by simpa using y
  rw [S]
  go_enter Tryz.func60,Tryz.ntmps60
  go_wp2;rw [← F.out];refine Z6_ c.heap.size c x40_ x40_ (Below.refl _ _) ?_
  iterate 13 (first
   | go_big_quiet_skip
   | (go_big_quiet_want;apply Exists.intro;refine ⟨fun V hV=>?_,?_⟩;(· obtain ⟨U,X,Y,Z,k4,k5,k6,k7⟩:=x.out V hV;go_simp;first | exact rfl | exact ⟨rfl,rfl⟩);go_simp;go_big_quiet_on))
  exact q17_
theorem T0_ (E:Nat→Addr) (ms:List Mat) (v:Value) (w:World) (hl:MatL w w.heap.size v ms) (hs:∀ m∈ms,Sml m) (C:Env E w):Calls Tryz.prog 33 #[v] w (Says w (sevB ms)):=by
 have o:=hid hl;have M:=hid hs;have J:=hid C;obtain ⟨A,d,rfl,x,_⟩:=id hl;have T:(ms.length:Int)≤9223372036854775807:=by have h:=x.1;have j:=x.2.1;unfold maxLen at j;omega
 obtain ⟨c,hW0⟩:∃ c,c=w.alloc (.cells #[.slice A ms.length d] 22):=⟨_,rfl⟩;have HW0:=hid hW0;have D:Below w.heap.size w c:=q42_;have q:Hid (Blk c w.heap.size 22 #[.slice A ms.length d]):=hid x44_;have Hb0:=hid D;unfold sevB;clear hl hs C x hW0 D;by_cases h:1≤ms.length
 ·by_cases j:ms.length≤8
  ·rw [decide_eq_true h,decide_eq_true j,Bool.true_and,Bool.true_and]
   have r:¬ (ms.length:Int)<1:=q40_;have y:¬ (8:Int)<(ms.length:Int):=q40_;have R:decide ((ms.length:Int)<1)=false:=decide_eq_false r;have S:decide ((8:Int)<(ms.length:Int))=false:=decide_eq_false y;obtain ⟨g,P,V,U,z,_,F⟩:=o.out.one (k:=0) q40_;obtain rfl:A=some g:=(Value.slice.inj z).1;obtain ⟨I,Q,H,_,G⟩:=id o.out;obtain ⟨N,_,B,s,_,_⟩:=G 0 q40_;obtain rfl:I=some g:=(Value.slice.inj H).1.symm;obtain rfl:g=N:=Option.some.inj B;have u:=(F w (Below.refl _ _)).2.1;rw [Nat.zero_mul,add_zero] at u;have L:Hid (Yp7 c 60 #[.pointer (some ⟨w.heap.size,0,none⟩)] (oddM ms) ms):=hid (Vn9 E ms w.heap.size d g c (J.out.up Hb0.out) q40_ M.out q.out.lt (Nat.lt_of_lt_of_le s Hb0.out.size) (q.out.cell 0) ((Hb0.out.cell (p:=⟨g.block,g.off+1,none⟩) s).trans u));have K:=hid (o.out.up Hb0.out);have O:ms.length≤1048576:=q40_;have k0:=q.out.cell 0;clear F G H z B u s
   go_enter Tryz.func33,Tryz.ntmps33
   go_wp2_with fail
   rw [← HW0.out];refine (Zr9 60 _ (oddM ms) _ ms _ (enters_of Tryz.func60 x40_ rfl) K.out O L.out).mono ?_;exact j38_
  ·rw [decide_eq_true h,decide_eq_false j]
   have r:¬ (ms.length:Int)<1:=q40_;have y:(8:Int)<(ms.length:Int):=q40_;exact j7_
 ·rw [decide_eq_false h]
  have r:(ms.length:Int)<1:=q40_;exact j7_
def putsU (f:Int→List Int) (l:List Int) (pp:List (List Int)):List (List Int):=l.foldl (fun q x=>q.set x.toNat (f x)) pp
section
variable {f:Int→List Int} {l:List Int} {pp:List (List Int)}
theorem Yj6 {k:Nat} (h:k<l.length):putsU f (l.take (k+1)) pp=(putsU f (l.take k) pp).set (l.getD k 0).toNat (f (l.getD k 0)):=by
 unfold putsU;rw [List.take_succ_eq_append_getElem h,List.foldl_append,show l.getD k 0=l[k] by simp [List.getD,h]];rfl
theorem M7_:∀ (l:List Int) (pp:List (List Int)),(putsU f l pp).length=pp.length
 | [],_=>rfl
 | x :: l,pp=>by
  show (putsU f l (pp.set x.toNat (f x))).length=_;rw [M7_ l,List.length_set]
theorem P8_ {x:Nat}:∀ {l:List Int} {pp:List (List Int)},(∀ y∈l,y.toNat≠x)→(putsU f l pp).getD x []=pp.getD x []
 | [],_,_=>rfl
 | z :: l,pp,h=>by
  show (putsU f l (pp.set z.toNat (f z))).getD x []=_;rw [P8_ (l:=l) fun y c=>h y (List.mem_cons_of_mem _ c),List.getD_eq_getElem?_getD,List.getElem?_set_ne (h z z40_),← List.getD_eq_getElem?_getD]
theorem Zs0 {x:Nat}:∀ {l:List Int} {pp:List (List Int)},(∀ y∈l,0≤y)→(x:Int)∈l→x<pp.length→(putsU f l pp).getD x []=f (x:Int)
 | [],_,_,h,_=>by cases h
 | z :: l,pp,h0,h,hx=>by
  show (putsU f l (pp.set z.toNat (f z))).getD x []=_;by_cases d:(x:Int)∈l
  ·exact Zs0 (fun y c=>h0 y (List.mem_cons_of_mem _ c)) d (by rw [List.length_set];exact hx)
  ·have e:z=(x:Int):=by
    rcases List.mem_cons.1 h with e | e
    ·exact e.symm
    ·exact absurd e d
   rw [P8_ fun y c g=>d (by have:=h0 y (List.mem_cons_of_mem _ c);rw [← g,Int.toNat_of_nonneg this];exact c),e,Int.toNat_natCast,List.getD_eq_getElem?_getD,List.getElem?_set_self hx];rfl
end
section
variable {ms:List Mat} {c:List Int}
noncomputable def nearU (ms:List Mat) (c:List Int):Nat→List Int
 | 0=>[]
 | r+1=>lev ms c r
theorem Zq6:IsSet []:=⟨List.Pairwise.nil,fun _ h=>by cases h⟩
theorem Xm3 (h:Cls ms c) (r:Nat):IsSet (nearU ms c r):=by
 cases r with
 | zero=>exact Zq6
 | succ r=>exact (H4_ h r).1
theorem Zy7 (h:Cls ms c) (r:Nat) (x:Int):x∈Z8_ (lev ms c r) (nearU ms c r)↔Lev ms c r x:=by
 rw [X5_ (H4_ h r).1 (Xm3 h r)];cases r with
 | zero=>exact ⟨fun d=>⟨d.1,fun j f=>absurd f (Nat.not_lt_zero _)⟩,fun d=>⟨d.1,fun e=>by cases e⟩⟩
 | succ r=>exact ⟨fun d=>⟨d.1,fun j f e=>d.2 (W2_ h (Nat.le_of_lt_succ f) e)⟩,fun d=>⟨d.1,d.2 r (Nat.lt_succ_self r)⟩⟩
theorem Vo0 (h:Cls ms c) (r:Nat):IsSet (Z8_ (lev ms c r) (nearU ms c r)):=by
 unfold Z8_ partL;split
 ·exact (H4_ h r).1.filter _
 ·exact Zq6
theorem lev_src {x:Nat}:(x:Int)∈lev ms c 0↔x<c.length∧c.getD x 0=-1:=by
 show (x:Int)∈Z3_ c (-1)↔_;unfold Z3_;rw [List.mem_filter,mem_upTo,Int.toNat_natCast];simp
variable {r:Nat} {pp:List (List Int)}
theorem Yp8 (h:Cls ms c) (d:∀ k,k<r→E3_ ms c k):∀ y∈Z8_ (lev ms c r) (nearU ms c r),0≤y∧y<(c.length:Int):=fun y e=>W4_ h d y ((Zy7 h r y).1 e).1
theorem Xy9 (h:Cls ms c) (j:∀ k,k<r→E3_ ms c k) (m:Part ms c r pp):Roomed ms c r pp (putsU (A4_ ms c) (Z8_ (lev ms c r) (nearU ms c r)) pp):=by
 have g:=Yp8 h j;refine ⟨M7_ _ _,fun x d=>.inl (Zs0 (fun y f=>(g y f).1) ((Zy7 h r _).2 d) ?_),fun x d=>P8_ fun y f e=>d ?_⟩
 ·have:=g _ ((Zy7 h r _).2 d)
  rw [m.len];omega
 ·rw [← e,Int.toNat_of_nonneg (g y f).1]
  exact (Zy7 h r y).1 f
theorem Xx0 (h:Cls ms c) (H:∀ k,k<r→E3_ ms c k) (v:Part ms c r pp) {k:Nat} (q:k<(Z8_ (lev ms c r) (nearU ms c r)).length) {x:Nat} (w:(Z8_ (lev ms c r) (nearU ms c r)).getD k 0=(x:Int)) (hc:c.getD x 0=-1) (I:A4_ ms c (x:Int)≠[]) :
  Roomed ms c r pp (putsU (A4_ ms c) ((Z8_ (lev ms c r) (nearU ms c r)).take (k+1)) pp):=by
 have f:=Yp8 h H;have D:=Vo0 h r;have p:=Zy7 h r;generalize Z8_ (lev ms c r) (nearU ms c r)=l at *
 have A:(x:Int)∈l:=by rw [← w];exact Q5_ 0 q
 have K:=f _ A;have C:=(p _).1 A;have u:(x:Int)∈lev ms c 0:=lev_src.2 ⟨q40_,hc⟩;have J:r=0:=Classical.byContradiction fun G=>C.2 0 q40_ u;have o:∀ y∈l.take (k+1),y∈l:=fun y g=>List.mem_of_mem_take g;refine ⟨M7_ _ _,fun y g=>?_,fun y g=>P8_ fun z d e=>g ?_⟩
 ·have B:=(p _).2 g
  have L:=f _ B;by_cases s:(y:Int)∈l.take (k+1)
  ·exact .inl (Zs0 (fun z d=>(f z (o z d)).1) s (by rw [v.len];omega))
  ·refine .inr ⟨?_,J,x,?_,⟨u,fun j m=>absurd m (Nat.not_lt_zero _)⟩,I⟩
   ·rw [P8_ fun z d e=>s (by rw [← e,Int.toNat_of_nonneg (f z (o z d)).1];exact d)]
    exact v.off y fun j m=>by omega
   ·obtain ⟨j,m,e⟩:=List.mem_iff_getElem.1 B
    have E:k<j:=Classical.byContradiction fun G=>s (by rw [← e];exact List.mem_take_iff_getElem.2 ⟨j,q40_,rfl⟩);have F:=List.pairwise_iff_getElem.1 D.1 k j q m E;rw [e,show l[k]=(x:Int) by rw [← w];simp [List.getD,q]] at F;omega
 ·rw [← e,Int.toNat_of_nonneg (f z (o z d)).1]
  exact (p z).1 (o z d)
theorem Xm4 (h:Cls ms c) (v:∀ k,k<r→E3_ ms c k) (f:Part ms c r pp) {o:List (List Int)} (m:Roomed ms c r pp o):Part ms c (r+1) (putsU (rowU ms c r) (Z8_ (lev ms c r) (nearU ms c r)) o):=by
 have j:=Yp8 h v;have p:=Zy7 h r;generalize Z8_ (lev ms c r) (nearU ms c r)=l at *
 have q:∀ x:Nat,¬ Lev ms c r (x:Int)→(putsU (rowU ms c r) l o).getD x []=pp.getD x []:=fun x d=>by
  rw [P8_ fun z g e=>d (by rw [← e,Int.toNat_of_nonneg (j z g).1];exact (p z).1 g),m.off x d]
 refine ⟨by rw [M7_,m.len,f.len],fun x k u d=>?_,fun x d=>?_⟩
 ·by_cases e:k=r
  ·subst e
   have s:=(p _).2 d;have:=j _ s;exact Zs0 (fun z g=>(j z g).1) s (by rw [m.len,f.len];omega)
  ·rw [q x fun w=>e (Xh9 d w)]
   exact f.on x k q40_ d
 ·rw [q x (d r (Nat.lt_succ_self r))]
  exact f.off x fun k u=>d k q40_
theorem Yj7 (h:Cls ms c) (s:∀ k,k<r→E3_ ms c k) (m:(lev ms c r).length≤(nearU ms c r).length):comeU ms c=nearU ms c r∧StopU ms c:=by
 cases r with
 | zero =>
  have d:lev ms c 0=[]:=List.length_eq_zero_iff.1 (Nat.le_zero.1 m);have o:lev ms c 1=[]:=List.eq_nil_iff_forall_not_mem.2 fun y u=>by
   have p:Lev ms c 1 y:=⟨u,fun j z e=>by
    have:j=0:=q40_;rw [this,d] at e;cases e⟩
   obtain ⟨x,f,_⟩:=Yo2 h p;have:=f.1;rw [d] at this;cases this
  have:=Yo4 h (r:=0) (by rw [d,o]) fun k A x f=>by
   have:k=0:=q40_;rw [this,d] at f;cases f
  rw [d] at this;exact this
 | succ r =>
  have v:=H4_ h r;have w:=H4_ h (r+1);have q:(lev ms c r).length≤(lev ms c (r+1)).length:=by
   rw [X3_ v,X3_ w];exact T5_ fun i _ g=>by
    rw [memP_iff] at g ⊢;exact W2_ h (Nat.le_succ r) g
  exact Yo4 h (Nat.le_antisymm m q) s
theorem Zs1 (h:Cls ms c) (hc:c.length≤64):InN (c.length+ms.length) (endsU ms c.length):=by
 have f:=h.many.2;refine ⟨⟨?_,fun x d=>?_⟩,fun x d=>?_⟩
 ·unfold endsU
  exact ((G9_ (k:=ms.length) q40_).1).map _ fun a b g=>by omega
 ·obtain ⟨k,e,rfl⟩:=mem_ends.1 d
  unfold Fit;omega
 ·obtain ⟨k,e,rfl⟩:=mem_ends.1 d
  omega
theorem Zl3 (h:Cls ms c) (hc:c.length≤64):Z8_ (allL ((c.length+ms.length:Nat):Int)) (allL (c.length:Int))=endsU ms c.length:=by
 have g:=h.many.2;have d:=(Zs1 h hc).1;have hs:IsSet (Z8_ (allL ((c.length+ms.length:Nat):Int)) (allL (c.length:Int))):=by
  unfold Z8_ partL;split
  ·exact (E7_ _).filter _
  ·exact Zq6
 refine hs.ext d fun y=>?_;rw [X5_ (E7_ _) (E7_ _),G4_ q40_ q40_,G4_ q40_ q40_,mem_ends];constructor
 ·rintro ⟨e,f⟩
  exact ⟨(y - c.length).toNat,q40_,q40_⟩
 ·rintro ⟨k,j,rfl⟩
  omega
theorem Xm5 (h:Cls ms c) (hc:c.length≤64) (x:Int):(Z8_ (allL (c.length:Int)) (lev ms c r)).filter (fun y=>J2_ ms c x y)=rowU ms c r x:=by
 have hs:IsSet (Z8_ (allL (c.length:Int)) (lev ms c r)):=by
  unfold Z8_ partL;split
  ·exact (E7_ _).filter _
  ·exact Zq6
 unfold rowU;refine (hs.filter _).ext ((G9_ hc).filter _) fun y=>?_;rw [List.mem_filter,List.mem_filter,X5_ (E7_ _) (H4_ h r).1,G4_ q40_ q40_,mem_upTo,Bool.and_eq_true,Bool.not_eq_true',← Bool.not_eq_true,memP_iff];constructor
 ·rintro ⟨⟨d,e⟩,h3⟩
  exact ⟨d,by rw [Int.toNat_of_nonneg d.1];exact e,h3⟩
 ·rintro ⟨d,e,h3⟩
  rw [Int.toNat_of_nonneg d.1] at e;exact ⟨⟨d,e⟩,h3⟩
theorem Vo1 (h:Cls ms c) (hc:c.length≤64):∀ y∈Z8_ (allL (c.length:Int)) (lev ms c r),(0≤y∧y<(c.length:Int))∧0≤c.getD y.toNat 0∧c.getD y.toNat 0<(ms.length:Int):=by
 intro y d;rw [X5_ (E7_ _) (H4_ h r).1,G4_ q40_ q40_] at d;obtain ⟨g,k⟩:=d;obtain ⟨j,rfl⟩:∃ j:Nat,y=(j:Int):=⟨y.toNat,q40_⟩;have f:=h.rng j q40_;rw [Int.toNat_natCast];refine ⟨g,?_,f.2⟩;have:c.getD j 0≠-1:=fun e=>k (W2_ h (Nat.zero_le r) (lev_src.2 ⟨q40_,e⟩));omega
end
theorem Yj8 {l:List Int} {P:Int→Bool} {k:Nat} (h:k<l.length):(l.take (k+1)).filter P=(l.take k).filter P ++ if P (l.getD k 0)=true then [l.getD k 0] else []:=by
 rw [List.take_succ_eq_append_getElem h,List.filter_append];congr 1;rw [show l.getD k 0=l[k] by simp [List.getD,h]];cases hp:P l[k]<;>simp [List.filter,hp]
theorem Zy8 (a b:List Int):(Z8_ a b).length≤a.length:=k18_
theorem Yg6 (E:Nat→Addr) (ms:List Mat) (p H:Option Addr) (r q:Nat) (c:List Int) (x:Nat) (sv:Value) (s:List Int) (w:World) (hl:MatL w w.heap.size (.slice p ms.length r) ms) (hs:∀ m∈ms,Sml m) (ho:Row w w.heap.size (.slice H c.length q) c) (Y:Row w w.heap.size sv s) (x9:c.length≤64) (hx:x<c.length) (xw:s.length≤64) (xe:∀ y∈s,(0≤y∧y<(c.length:Int))∧0≤c.getD y.toNat 0∧c.getD y.toNat 0<(ms.length:Int)) (hE:Env E w) :
  Calls Tryz.prog 67 #[.agg #[.slice p ms.length r,.slice H c.length q],.int .i64 (x:Int),sv] w (GivesF w (s.filter fun y=>J2_ ms c (x:Int) y)):=by
 have xy:(x:Int)<(c.length:Int):=q40_;have xu:(c.length:Int)≤64:=q40_;have xx:(s.length:Int)≤64:=q40_;obtain ⟨As,cs,rfl,_⟩:=id Y;obtain ⟨o,hW0⟩:∃ o,o=w.alloc (.cells #[.slice p ms.length r,.slice H c.length q] 47):=⟨_,rfl⟩;have xk:=hid hW0;have v:Below w.heap.size w o:=q42_;have x7:Blk o w.heap.size 47 #[.slice p ms.length r,.slice H c.length q]:=x44_;have Hb0:=hid v;have x3:=hid x7;have HL:=hid (hl.up v);have N:=hid (ho.up v);have HE:=hid (hE.up v);have Hs:=hid hs;have HS:=hid (Y.up v);have xn:=hid xe;clear hW0 v x7 hl ho hE hs Y xe
 go_enter Tryz.func67,Tryz.ntmps67
 go_wp2;rw [← xk.out]
 go_loopw [7,9,10,13] (fun v7 _ _ vk wr=>∃ j:Nat,vk=.int .i64 j∧j≤s.length∧wr.ownsRow o.heap.size 3 1 v7 ((s.take j).filter fun y=>J2_ ms c (x:Int) y).length (ints ((s.take j).filter fun y=>J2_ ms c (x:Int) y))∧Below o.heap.size o wr) (fun _ _ _ vk _=>s.length - (intOf vk).toNat)
 case atStart=>exact ⟨0,rfl,Nat.zero_le _,World.ownsRow_nil _ _ _ _,Below.refl _ _⟩
 case round =>
  obtain ⟨j,rfl,hj,xf,hb⟩:=hrel;have Hown:=hid xf;have Hb:=hid hb;clear xf;by_cases V:j<s.length
  ·have xv:(j:Int)<(s.length:Int):=by omega
   have Hkr:=hid (x3.out.below hb x3.out.lt);obtain ⟨ax,u,xd⟩:=Row.nth HS.out V;subst u;obtain ⟨I,u,xc⟩:=Row.nth N.out hx;subst u;have L:=xn.out _ (Q5_ 0 V);have Hn:=hid (Yj8 (P:=fun y=>J2_ ms c (x:Int) y) V);have xm:Hid (((s.take j).filter fun y=>J2_ ms c (x:Int) y).length≤1048576):=hid (Nat.le_trans (List.length_filter_le _ _) z42_);have O:=xd wr hb;obtain ⟨y,hy⟩:∃ y:Nat,s.getD j 0=(y:Int):=⟨(s.getD j 0).toNat,q40_⟩;rw [hy] at L Hn O;rw [Int.toNat_natCast] at L;have xt:y<c.length:=q40_;have xz:(y:Int)<(c.length:Int):=q40_;obtain ⟨ay,u,T⟩:=Row.nth N.out xt;obtain rfl:=Option.some.inj u;obtain ⟨k,U⟩:∃ k:Nat,c.getD y 0=(k:Int):=⟨(c.getD y 0).toNat,q40_⟩;rw [U] at L T;have xr:k<ms.length:=q40_;have g1:=T wr hb;have g2:=Hkr.out.cell 1;have xi:=hid (HL.out.up hb);have x2:=hid (N.out.up hb);have xh:=hid (HE.out.up hb);have HOc:=hid xc;obtain ⟨z,hz⟩:∃ z,c.getD x 0=z:=⟨_,rfl⟩;have x5:Hid (J2_ ms c (x:Int) (y:Int)=(!((k:Int)==z) && indT (ms.getD k default) (Y1_ (Z8_ (Z3_ c (k:Int)) [(y:Int)]) [(x:Int)]))):=hid (by
    unfold J2_;rw [Int.toNat_natCast,Int.toNat_natCast,U,hz,S9_,decide_eq_true (show (0:Int)≤(k:Int) by omega),Bool.true_and])
   have xb:(Z8_ (Z3_ c (k:Int)) [(y:Int)]).length≤1000:=by have J:=Y7_ (Q1_ x9 (k:Int));have Q:=Zy8 (Z3_ c (k:Int)) [(y:Int)];omega
   have xa:(Z3_ c (k:Int)).length≤1048576:=by have J:=Y7_ (Q1_ x9 (k:Int));omega
   have xl:=hid xb;have x4:=hid xa;rw [hz] at HOc;have HK:Hid (∀ W,Below wr.drew.heap.size wr.drew W→W.cell? ⟨w.heap.size,0,none⟩=some (.slice p ms.length r)∧W.cell? ⟨w.heap.size,1,none⟩=some (.slice (some I) c.length q)∧W.cell? (I.add x)=some (.int .i64 z)):=hid fun W hW=>k15_;generalize (s.take j).filter (fun y=>J2_ ms c (x:Int) y)=Z at *
   have d:Hid (Below wr.drew.heap.size wr.drew wr.drew):=hid (Below.refl _ _);have xo:=hid xr;clear hb xc xd T hz xb xa hy U L u;by_cases K:(k:Int)=z
   ·have xs:((k:Int) != z)=false:=by rw [K];simp
    have X:((k:Int)==z)=true:=by rw [K];simp
    have hrf:Hid (J2_ ms c (x:Int) (y:Int)=false):=hid (by rw [x5.out,X];rfl);go_wp2;refine Z6_ wr.heap.size wr x40_ x40_ (Below.refl _ _) ?_
    iterate 20 (first
     | go_big_quiet_skip
     | (go_big_quiet_want;apply Exists.intro;refine ⟨fun W hW=>?_,?_⟩;(· have h:=Hkr.out.below hW Hkr.out.lt;have q0:=h.cell 0;have q1:=h.cell 1;have q2:=HOc.out W (Z0_ Hb.out (le_refl _) hW);go_simp;first | exact rfl | exact ⟨rfl,rfl⟩);go_simp;go_big_quiet_on))
    refine wpQuiet_nil ?_;intro w5 R;have Hb5:=hid (Z0_ Hb.out (le_refl _) R);have Ho5:=hid (M1_ Hown.out R);clear R O g1 g2;exact z13_
   ·have xs:((k:Int) != z)=true:=by simpa using K
    have X:((k:Int)==z)=false:=by simpa using K
    obtain ⟨b,S⟩:∃ b,indT (ms.getD k default) (Y1_ (Z8_ (Z3_ c (k:Int)) [(y:Int)]) [(x:Int)])=b:=⟨_,rfl⟩;have HY:=hid S;have hrf:Hid (J2_ ms c (x:Int) (y:Int)=b):=hid (by rw [x5.out,X,S];rfl);have x8:c.length≤1048576:=q40_;have C:Hid (∀ W,Below wr.drew.heap.size wr.drew W→Below wr.heap.size wr W):=hid fun W hW=>Z0_ (Below.refl _ wr).drew (le_refl _) hW;clear S;go_wp2
    go_region_held3 (fun W=>W.cell? ⟨w.heap.size,0,none⟩=some (.slice p ms.length r)∧W.cell? ⟨w.heap.size,1,none⟩=some (.slice (some I) c.length q)∧W.cell? (I.add x)=some (.int .i64 z))
     (first | exact HK.out _ d.out | exact HK.out _ (d.out.alloc d.out.size _))
     (first
     | (go_at_call 18;refine (B7_ _ c (k:Int) wr.drew (x2.out.up (C.out _ d.out)) x8).mono ?_;rintro e w3 ⟨v3,rfl,F,B,_⟩;replace d:=hid (Z0_ d.out (le_refl _) B);have M:=hid F;clear F B)
     | (go_at_call 18;refine (B7_ _ c (k:Int) (wr.drew.alloc (.cells #[.int .i64 (y:Int)] 3)) (x2.out.up (C.out _ (d.out.alloc (le_refl _) _))) x8).mono ?_;rintro e w3 ⟨v3,rfl,F,B,_⟩;have xj:=hid ((Row.here (Row.lit1 wr.drew (y:Int))).up B);replace d:=hid (Z0_ (d.out.alloc (le_refl _) _) (le_refl _) B);have M:=hid F;clear F B)
     | (go_at_call 64;refine (N3_ _ _ (Z3_ c (k:Int)) [(y:Int)] _ M.out xj.out x4.out z40_).mono ?_;rintro e w4 ⟨v4,rfl,G,D⟩;replace d:=hid (Z0_ d.out (le_refl _) D);have x1:=hid G;clear G D)
     | (go_at_call 64;refine (N3_ _ _ (Z3_ c (k:Int)) [(y:Int)] _ (M.out.upA _) (Row.here (Row.lit1 _ (y:Int))) x4.out z40_).mono ?_;rintro e w4 ⟨v4,rfl,G,D⟩;replace d:=hid (Z0_ (d.out.alloc d.out.size _) (le_refl _) D);have x1:=hid G;clear G D)
     | (go_at_call 91;refine (Zk4 E ms _ _ _ (Z8_ (Z3_ c (k:Int)) [(y:Int)]) k (x:Int) _ (xi.out.up (C.out _ d.out)) xo.out Hs.out x1.out xl.out (xh.out.up (C.out _ d.out))).mono ?_;rintro e w5 ⟨rfl,x6⟩;rw [HY.out];replace d:=hid (Z0_ d.out (le_refl _) x6);clear x6))
    all_goals
     have x0:=hid (C.out _ d.out);have Hb5:=hid (Z0_ Hb.out (le_refl _) x0.out);have Ho5:=hid (M1_ Hown.out x0.out);clear O g1 g2;cases b
     ·exact z13_
     ·go_wp2_with (at_builtin;refine Z4_ rfl _ _ rfl o.heap.size _ _ _ Z [(y:Int)] rfl rfl (Ho5.out.alloc _) (Row.lit1 _ _) (by have:=xm.out;omega) z40_ j47_ ?_)
      intro v' y0 J Q;have xg:=hid ((Hb5.out.alloc Hb5.out.size _).grown Q j47_ (fun i hi=>(Ho5.out.lt i hi).1));have xp:=hid J;clear J Q;go_wp2
      go_roundw
      case rel=>exact ⟨j+1,x41_,q40_,by rw [Hn.out,if_pos hrf.out,List.length_append];exact xp.out,xg.out⟩
      exact mz_
  ·have xq:j=s.length:=by omega
   subst xq;rw [List.take_length] at Hown;exact z14_
open Go Go.RowKit
theorem Row.behindV {w:World} {B:Nat} {d:Addr} {n c:Nat} {x:Int} {l:List Int} (h:Row w B (.slice (some d) n c) (x :: l)):Row w B (.slice (some (d.add 1)) l.length (c - 1)) l∧n=l.length+1∧1≤c:=by
 obtain ⟨A,o,e,⟨g,p,_⟩,k⟩:=h;injection e with e1 e2 e3;subst e1 e2 e3;simp only [List.length_cons] at g;refine ⟨⟨some (d.add 1),c - 1,rfl,⟨q40_,q40_,fun e=>by cases e⟩,fun i q=>?_⟩,rfl,q40_⟩;obtain ⟨m,f,hb,j⟩:=k (i+1) (by simp only [List.length_cons];omega);injection f with f;subst f;refine ⟨d.add 1,rfl,by rw [Z2_];exact hb,?_⟩;rw [Go.Deep.add_add,Nat.add_comm 1 i,j];rfl
theorem Xm6 (a b:List Int):(Z8_ a b).length≤a.length:=k18_
theorem Vq1 {l:List Int} {p:Int→Bool} {k:Nat} (c:k<l.length) (h:(l.take k).any p=false):(l.take (k+1)).any p=p (l.getD k 0):=by
 rw [List.take_succ_eq_append_getElem c,List.any_append,h,show l[k]=l.getD k 0 by simp [List.getD,c]];simp
theorem Zg1 (l:List (List Int)) (hl:∀ i,IsSet (l.getD i [])) (T:∀ i,(l.getD i []).length≤64) (hL:l.length≤64):∀ (s d:List Int) (j m o:Value) (w:World),(∀ x∈s,0≤x∧x<(l.length:Int))→IsSet d→d.length+s.length≤1000→Rows2 w w.heap.size j l→Row w w.heap.size m s→Row w w.heap.size o d →
  Calls Tryz.prog 140 #[j,m,o] w (Says w (F3_ l s d))
 | [],d,j,m,o,w,_,_,_,hv,hs,hu=>by
  obtain ⟨As,cs,rfl,_⟩:=hs
  go_enter Tryz.func140,Tryz.ntmps140
  exact y4_
 | x :: s,d,j,m,o,w,hin,hus,hsz,hv,hs,hu=>by
  have ih:Hid (∀ (d:List Int) (j m o:Value) (w:World),IsSet d→d.length+s.length≤1000→Rows2 w w.heap.size j l→Row w w.heap.size m s→Row w w.heap.size o d →
   Calls Tryz.prog 140 #[j,m,o] w (Says w (F3_ l s d))):=hid fun d j m o w g p h3 h4 h5=>Zg1 l hl T hL s d j m o w (fun y hy=>hin y k44_) g p h3 h4 h5
  have HV:=hid hv;have HS:=hid hs;have HU:=hid hu;have xw:=hid hus;obtain ⟨X,R⟩:∃ X:Nat,x=(X:Int):=⟨x.toNat,by have:=hin x z40_;omega⟩;have xo:X<l.length:=by have:=hin x z40_;omega
  have y1:(X:Int)<(l.length:Int):=q40_;have xv:=hid (hl X);have xh:=hid (T X);obtain ⟨Al,cl,rfl,_⟩:=id hv;obtain ⟨As,cs,rfl,_⟩:=id hs;obtain ⟨Au,cu,rfl,_⟩:=id hu;obtain ⟨E,Q,x6⟩:=Row.nthV hs (k:=0) z40_;subst Q;have P:=x6 w (Below.refl _ _);rw [show (x :: s).getD 0 0=(X:Int) from R,add_zero] at P;obtain ⟨xx,ul,xn,gl,xa⟩:=Rows2.read hv X xo;subst xn;have xi:=hid xa;obtain ⟨C,_,y2⟩:=Row.behindV hs;have xd:=hid C;have y3:(1:Int)≤(cs:Int):=q40_;have y4:(s.length:Int)+1≤(cs:Int):=by obtain ⟨_,_,e,⟨g,_⟩,_⟩:=id hs;injection e with e1 I e3;subst e3;simp only [List.length_cons] at g;omega
  have xb:d.length≤1048576:=q40_;have xr:(Z8_ (l.getD X []) d).length≤64:=Nat.le_trans (Xm6 _ _) (T X);have xs:((Z8_ (l.getD X []) d).length:Int)≤64:=q40_;have K:Hid (F3_ l (x :: s) d=(Z8_ (l.getD X []) d).any fun r=>F3_ l s (Y1_ d [r])):=hid (by rw [F3_,R,Int.toNat_natCast]);have xg:=hid (G3_ (l.getD X []) d);clear hv hs hu hin hus C xa x6 R
  go_enter Tryz.func140,Tryz.ntmps140
  go_wp2_with fail
  refine (E2_ _ _ (l.getD X []) d _ xi.out HU.out (by have:=xh.out;omega) xb).mono ?_;rintro e w1 ⟨v1,rfl,x8,x4⟩;have N:=hid x8;have x0:=hid x4;obtain ⟨M,hM⟩:∃ M,Z8_ (l.getD X []) d=M:=⟨_,rfl⟩;rw [hM] at N xr xs K xg;obtain ⟨Am,H,rfl,_⟩:=id N.out;have xe:=hid P;have xp:E.block<w.heap.size:=by obtain ⟨_,_,e,_,hk⟩:=HS.out;injection e with e1;subst e1;obtain ⟨a,I,hb,_⟩:=hk 0 z40_;injection I with I;rw [I];exact hb
  clear x8 x4 hM P gl;go_wp2
  go_loopw [6,8] (fun _ Z wr=>∃ k:Nat,Z=.int .i64 (k:Int)∧k≤M.length∧Hid ((M.take k).any (fun r=>F3_ l s (Y1_ d [r]))=false∧Below w1.heap.size w1 wr)) (fun _ Z _=>M.length - (intOf Z).toNat)
  case atStart=>exact ⟨0,rfl,Nat.zero_le _,z40_,Below.refl _ _⟩
  case round =>
   obtain ⟨k,rfl,hk,B⟩:=hrel;by_cases x7:k<M.length
   ·have y8:(k:Int)<(M.length:Int):=by omega
    have ya:IntKind.i64.wrap ((k:Int)+1)=(k:Int)+1:=k40_;obtain ⟨ad,Q,_,y5,U⟩:=Row.oneV (N.out.up B.out.2) x7;subst Q;have y6:(k:Int)+1≤(H:Int):=q40_;have y7:(k:Int)≤(k:Int)+1:=q40_;have v:=hid (Z0_ x0.out (le_refl _) B.out.2);obtain ⟨r,V⟩:∃ r,M.getD k 0=r:=⟨_,rfl⟩;rw [V] at U;have x2:Hid (∀ (A:Option Addr) (n c:Nat),A=some (ad.add k)→n=1→c=H - k→Row wr wr.heap.size (.slice A n c) [r]):=hid fun A n c g p h3=>by subst g p h3;exact U
    have D:=hid (Vq1 x7 B.out.1);rw [V] at D;have xf:Hid ((Y1_ d [r]).length+s.length≤1000):=hid (by have:=Zx3 d [r];simp only [List.length_cons,List.length_nil] at this hsz;omega);clear U V;obtain ⟨z,Y⟩:∃ z,F3_ l s (Y1_ d [r])=z:=⟨_,rfl⟩;have F:=(Below.refl wr.heap.size wr).drew;have xl:=hid ((HU.out.up v.out).up F);have O:=hid ((HV.out.up v.out).up F);have C:=(xd.out.up v.out).up F;have x3:Hid (cs=1→s=[]):=hid fun h=>List.eq_nil_of_length_eq_zero q40_;have xj:Hid (∀ (A:Option Addr) (n c:Nat),(A=some (E.add 1)∨(s=[]∧A=some E))→n=s.length→c=cs - 1→∀ W,Below wr.drew.heap.size wr.drew W→Row W W.heap.size (.slice A n c) s):=hid fun A n c g p h3 W J=>by
     subst p h3;rcases g with rfl | ⟨g,rfl⟩
     ·exact C.up J
     ·have hc:=C.up J
      obtain ⟨_,_,e,⟨q1,q2,_⟩,_⟩:=hc;injection e with _ _ e3;subst e3;subst g;exact ⟨_,_,rfl,⟨q1,q2,fun e=>by cases e⟩,fun i hi=>absurd hi z40_⟩
    have xy:(1:Int)≤(s.length:Int)+1:=q40_;have xz:(0:Int)≤1:=q40_;have y0:((s.length:Int)+1 - 1).toNat=s.length:=q40_;have xm:Hid (∀ (A:Option Addr) (n c:Nat),A=some (ad.add k)→n=1→c=H - k→Row wr.drew wr.drew.heap.size (.slice A n c) [r]):=hid fun A n c g p h3=>(x2.out A n c g p h3).up F;have u:Hid (Below wr.drew.heap.size wr.drew wr.drew):=hid (Below.refl _ _);have K5:Hid (∀ W,Below wr.drew.heap.size wr.drew W→W.cell? E=some (.int .i64 (X:Int))):=hid fun W J=>((Z0_ v.out.drew (le_refl _) J).cell xp).trans xe.out;have HM:Hid (∀ (j m o:Value) (W:World),Rows2 W W.heap.size j l→Row W W.heap.size m s→Row W W.heap.size o (Y1_ d [r])→Calls Tryz.prog 140 #[j,m,o] W (Says W z)):=hid fun j m o W g p h3=>by rw [← Y];exact ih.out _ j m o W (D9_ _ _) xf.out g p h3
    rw [Y] at D;clear Y F x2 ih C;have y9:¬ H=k:=q40_;by_cases G:cs=1
    all_goals
     go_wp2
     go_region_held3 (fun W=>W.cell? E=some (.int .i64 (X:Int)))
      (exact K5.out _ u.out)
      (first
      | (go_at_call 47;refine (B3_ _ _ d [r] _ xl.out (xm.out _ _ _ (by first | rfl | (simp [Addr.add];done) | (simp [Addr.add];omega) | (simp;intro h;omega)) (by first | rfl | omega | (simp;try omega)) (by first | rfl | omega | (simp;try omega))) xb z40_).mono ?_;rintro e yb ⟨xu,rfl,x9,S⟩;replace u:=hid (Z0_ u.out (le_refl _) S);replace O:=hid (O.out.up S);have xk:=hid x9;clear x9 S)
      | (go_at_call_of 140 xu;refine (HM.out _ _ _ _ O.out (xj.out _ _ _ (by first | exact .inl rfl | exact .inr ⟨x3.out G,rfl⟩ | exact .inl (by simp [G]) | exact .inr ⟨x3.out G,by simp [G]⟩) (by first | rfl | omega | (simp;done) | (simp;omega)) (by first | rfl | omega | (simp;done) | (simp;omega)) _ u.out) xk.out).mono ?_;rintro e yc ⟨rfl,x5⟩;replace u:=hid (Z0_ u.out (le_refl _) x5);clear x5))
     go_simp;have xc:=hid (Z0_ v.out.drew (le_refl _) u.out);have x1:=hid (Z0_ B.out.2.drew (le_refl _) u.out);cases z
     ·go_wp2
      go_roundw
      case rel=>first | exact ⟨k+1,x41_,q40_,D.out,x1.out⟩ | exact ⟨_,.int .i64 ((k:Int)+1),_,_,_,_,_,_,_,_,_,_,_,_,_,_,_,_,_,⟨k+1,x41_,q40_,D.out,x1.out⟩,by rw [G]⟩
      exact mz_
     ·have L:Hid (F3_ l (x :: s) d=true):=hid (by
       rw [K.out];have g:=D.out;rw [List.any_eq_true] at g ⊢;obtain ⟨q,hq,xt⟩:=g;exact ⟨q,List.mem_of_mem_take hq,xt⟩)
      go_wp2;go_ret;exact ⟨by rw [L.out];rfl,xc.out⟩
   ·have xq:k=M.length:=by omega
    subst xq;have L:Hid (F3_ l (x :: s) d=false):=hid (by rw [K.out,← B.out.1,List.take_length]);have v:=hid (Z0_ x0.out (le_refl _) B.out.2);go_wp2;go_ret;exact ⟨by rw [L.out];rfl,v.out⟩
end Go.Proofs.YtheeajnkiniopaaGreatDoor.Wp
