/- What the program's search for a way writes, row by row, plain. Nothing of the program here. -/
import Derived.Test.YtigobiacbficaaaGreatDoorUWay
import Derived.Test.YtigobiacbficaaaGreatDoorVReach
import Derived.Test.YtigobiacbficaaaGreatDoorUPure
import Derived.Test.YtigobiacbficaaaGreatDoorUSev
import Derived.Test.YtigobiacbficaaaGreatDoorZT
import Derived.Test.YtigobiacbficaaaGreatDoorX0A
import Derived.Test.YtigobiacbficaaaGreatDoorX0B
set_option maxHeartbeats 16000000
set_option maxRecDepth 100000
open Go.Lib (hid)
open Nat (le_refl)
namespace Go.Proofs.YtigobiacbficaaaGreatDoor.Wp
private theorem k3_ {P:Prop} (h:P:=by
 have Hb:=hid (hbad.out hod)
 clear hO hod hbad hgood
 rw [Hb.out]
 go_wp2
 refine Z6_ wr.heap.size wr (by kernel_rfl) (by kernel_rfl) (Below.refl _ _) ?_
 iterate 18 (first
  | go_big_quiet_skip
  | go_big_quiet_step (with_reducible exact hC.out _)
  | (go_big_quiet_want;apply Exists.intro;refine ⟨fun W hW=>?_,?_⟩;(· obtain ⟨⟨k0,k1,k2,k3,k4,k5⟩,k6⟩:=hK.out W hW;go_simp;first | exact rfl | exact ⟨rfl,rfl⟩);go_simp;go_big_quiet_on))
 refine wpQuiet_nil ?_
 intro w7 hB7
 have HBn:=hid (Z0_ HBr.out (le_refl _) hB7)
 clear hB7 hC hK
 go_wp2
 go_ret
 exact ⟨rfl,HBn.out⟩):P:=h
private theorem j8_ {P:Prop} (h:P:=by
 clear qY qYd at_ eX sl hx hy h1 h2 h3 h4
 go_wp2
 go_region
 all_goals
  go_wp2
  go_roundw
  case rel =>
   have h:=HPut.out _ Hz.out
   exact ⟨k+1,by go_num,by omega,h.1,h.2.1,h.2.2.1,h.2.2.2.1,h.2.2.2.2⟩
  case measure=>simp [intOf];omega):P:=h
open Go Go.RowKit
def putsU (f:Int→List Int) (l:List Int) (pp:List (List Int)):List (List Int):=l.foldl (fun q x=>q.set x.toNat (f x)) pp
section
variable {f:Int→List Int} {l:List Int} {pp:List (List Int)}
theorem Yc7 {k:Nat} (h:k<l.length):putsU f (l.take (k+1)) pp=(putsU f (l.take k) pp).set (l.getD k 0).toNat (f (l.getD k 0)):=by
 unfold putsU;rw [List.take_succ_eq_append_getElem h,List.foldl_append,show l.getD k 0=l[k] by simp [List.getD,h]];rfl
theorem M8_:∀ (l:List Int) (pp:List (List Int)),(putsU f l pp).length=pp.length
 | [],_=>rfl
 | x :: l,pp=>by
  show (putsU f l (pp.set x.toNat (f x))).length=_;rw [M8_ l,List.length_set]
theorem R3_ {x:Nat}:∀ {l:List Int} {pp:List (List Int)},(∀ y∈l,y.toNat≠x)→(putsU f l pp).getD x []=pp.getD x []
 | [],_,_=>rfl
 | z :: l,pp,h=>by
  show (putsU f l (pp.set z.toNat (f z))).getD x []=_;rw [R3_ (l:=l) fun y c=>h y (List.mem_cons_of_mem _ c),List.getD_eq_getElem?_getD,List.getElem?_set_ne (h z k40_),← List.getD_eq_getElem?_getD]
theorem Zw1 {x:Nat}:∀ {l:List Int} {pp:List (List Int)},(∀ y∈l,0≤y)→(x:Int)∈l→x<pp.length→(putsU f l pp).getD x []=f (x:Int)
 | [],_,_,h,_=>by cases h
 | z :: l,pp,h0,h,hx=>by
  show (putsU f l (pp.set z.toNat (f z))).getD x []=_;by_cases d:(x:Int)∈l
  ·exact Zw1 (fun y c=>h0 y (List.mem_cons_of_mem _ c)) d (by rw [List.length_set];exact hx)
  ·have e:z=(x:Int):=by
    rcases List.mem_cons.1 h with e | e
    ·exact e.symm
    ·exact absurd e d
   rw [R3_ fun y c g=>d (by have:=h0 y (List.mem_cons_of_mem _ c);rw [← g,Int.toNat_of_nonneg this];exact c),e,Int.toNat_natCast,List.getD_eq_getElem?_getD,List.getElem?_set_self hx];rfl
end
section
variable {ms:List Mat} {c:List Int}
noncomputable def nearU (ms:List Mat) (c:List Int):Nat→List Int
 | 0=>[]
 | r+1=>lev ms c r
theorem Zb2:IsSet []:=⟨List.Pairwise.nil,fun _ h=>by cases h⟩
theorem Xs8 (h:Cls ms c) (r:Nat):IsSet (nearU ms c r):=by
 cases r with
 | zero=>exact Zb2
 | succ r=>exact (H8_ h r).1
theorem Zv3 (h:Cls ms c) (r:Nat) (x:Int):x∈Z8_ (lev ms c r) (nearU ms c r)↔Lev ms c r x:=by
 rw [X5_ (H8_ h r).1 (Xs8 h r)];cases r with
 | zero=>exact ⟨fun d=>⟨d.1,fun j f=>absurd f (Nat.not_lt_zero _)⟩,fun d=>⟨d.1,fun e=>by cases e⟩⟩
 | succ r=>exact ⟨fun d=>⟨d.1,fun j f e=>d.2 (W8_ h (Nat.le_of_lt_succ f) e)⟩,fun d=>⟨d.1,d.2 r (Nat.lt_succ_self r)⟩⟩
theorem Vw0 (h:Cls ms c) (r:Nat):IsSet (Z8_ (lev ms c r) (nearU ms c r)):=by
 unfold Z8_ partL;split
 ·exact (H8_ h r).1.filter _
 ·exact Zb2
theorem lev_src {x:Nat}:(x:Int)∈lev ms c 0↔x<c.length∧c.getD x 0=-1:=by
 show (x:Int)∈Z3_ c (-1)↔_;unfold Z3_;rw [List.mem_filter,mem_upTo,Int.toNat_natCast];simp
variable {r:Nat} {pp:List (List Int)}
theorem Yw1 (h:Cls ms c) (d:∀ k,k<r→E7_ ms c k):∀ y∈Z8_ (lev ms c r) (nearU ms c r),0≤y∧y<(c.length:Int):=fun y e=>Zz0 h d y ((Zv3 h r y).1 e).1
theorem Xc6 (h:Cls ms c) (j:∀ k,k<r→E7_ ms c k) (m:Part ms c r pp):Roomed ms c r pp (putsU (A3_ ms c) (Z8_ (lev ms c r) (nearU ms c r)) pp):=by
 have g:=Yw1 h j;refine ⟨M8_ _ _,fun x d=>.inl (Zw1 (fun y f=>(g y f).1) ((Zv3 h r _).2 d) ?_),fun x d=>R3_ fun y f e=>d ?_⟩
 ·have:=g _ ((Zv3 h r _).2 d)
  rw [m.len];omega
 ·rw [← e,Int.toNat_of_nonneg (g y f).1]
  exact (Zv3 h r y).1 f
theorem Xc7 (h:Cls ms c) (H:∀ k,k<r→E7_ ms c k) (v:Part ms c r pp) {k:Nat} (q:k<(Z8_ (lev ms c r) (nearU ms c r)).length) {x:Nat} (w:(Z8_ (lev ms c r) (nearU ms c r)).getD k 0=(x:Int)) (hc:c.getD x 0=-1) (I:A3_ ms c (x:Int)≠[]) :
  Roomed ms c r pp (putsU (A3_ ms c) ((Z8_ (lev ms c r) (nearU ms c r)).take (k+1)) pp):=by
 have f:=Yw1 h H;have D:=Vw0 h r;have p:=Zv3 h r;generalize Z8_ (lev ms c r) (nearU ms c r)=l at *
 have A:(x:Int)∈l:=by rw [← w];exact Q7_ 0 q
 have K:=f _ A;have C:=(p _).1 A;have u:(x:Int)∈lev ms c 0:=lev_src.2 ⟨y40_,hc⟩;have J:r=0:=Classical.byContradiction fun G=>C.2 0 y40_ u;have o:∀ y∈l.take (k+1),y∈l:=fun y g=>List.mem_of_mem_take g;refine ⟨M8_ _ _,fun y g=>?_,fun y g=>R3_ fun z d e=>g ?_⟩
 ·have B:=(p _).2 g
  have L:=f _ B;by_cases s:(y:Int)∈l.take (k+1)
  ·exact .inl (Zw1 (fun z d=>(f z (o z d)).1) s (by rw [v.len];omega))
  ·refine .inr ⟨?_,J,x,?_,⟨u,fun j m=>absurd m (Nat.not_lt_zero _)⟩,I⟩
   ·rw [R3_ fun z d e=>s (by rw [← e,Int.toNat_of_nonneg (f z (o z d)).1];exact d)]
    exact v.off y fun j m=>by omega
   ·obtain ⟨j,m,e⟩:=List.mem_iff_getElem.1 B
    have E:k<j:=Classical.byContradiction fun G=>s (by rw [← e];exact List.mem_take_iff_getElem.2 ⟨j,y40_,rfl⟩);have F:=List.pairwise_iff_getElem.1 D.1 k j q m E;rw [e,show l[k]=(x:Int) by rw [← w];simp [List.getD,q]] at F;omega
 ·rw [← e,Int.toNat_of_nonneg (f z (o z d)).1]
  exact (p z).1 (o z d)
theorem Xs9 (h:Cls ms c) (v:∀ k,k<r→E7_ ms c k) (f:Part ms c r pp) {o:List (List Int)} (m:Roomed ms c r pp o):Part ms c (r+1) (putsU (rowU ms c r) (Z8_ (lev ms c r) (nearU ms c r)) o):=by
 have j:=Yw1 h v;have p:=Zv3 h r;generalize Z8_ (lev ms c r) (nearU ms c r)=l at *
 have q:∀ x:Nat,¬ Lev ms c r (x:Int)→(putsU (rowU ms c r) l o).getD x []=pp.getD x []:=fun x d=>by
  rw [R3_ fun z g e=>d (by rw [← e,Int.toNat_of_nonneg (j z g).1];exact (p z).1 g),m.off x d]
 refine ⟨by rw [M8_,m.len,f.len],fun x k u d=>?_,fun x d=>?_⟩
 ·by_cases e:k=r
  ·subst e
   have s:=(p _).2 d;have:=j _ s;exact Zw1 (fun z g=>(j z g).1) s (by rw [m.len,f.len];omega)
  ·rw [q x fun w=>e (Xo4 d w)]
   exact f.on x k y40_ d
 ·rw [q x (d r (Nat.lt_succ_self r))]
  exact f.off x fun k u=>d k y40_
theorem Yc8 (h:Cls ms c) (s:∀ k,k<r→E7_ ms c k) (m:(lev ms c r).length≤(nearU ms c r).length):comeU ms c=nearU ms c r∧StopU ms c:=by
 cases r with
 | zero =>
  have d:lev ms c 0=[]:=List.length_eq_zero_iff.1 (Nat.le_zero.1 m);have o:lev ms c 1=[]:=List.eq_nil_iff_forall_not_mem.2 fun y u=>by
   have p:Lev ms c 1 y:=⟨u,fun j z e=>by
    have:j=0:=y40_;rw [this,d] at e;cases e⟩
   obtain ⟨x,f,_⟩:=Yt3 h p;have:=f.1;rw [d] at this;cases this
  have:=Yt5 h (r:=0) (by rw [d,o]) fun k A x f=>by
   have:k=0:=y40_;rw [this,d] at f;cases f
  rw [d] at this;exact this
 | succ r =>
  have v:=H8_ h r;have w:=H8_ h (r+1);have q:(lev ms c r).length≤(lev ms c (r+1)).length:=by
   rw [Y9_ v,Y9_ w];exact U0_ fun i _ g=>by
    rw [memP_iff] at g ⊢;exact W8_ h (Nat.le_succ r) g
  exact Yt5 h (Nat.le_antisymm m q) s
theorem Zw2 (h:Cls ms c) (hc:c.length≤64):InN (c.length+ms.length) (endsU ms c.length):=by
 have f:=h.many.2;refine ⟨⟨?_,fun x d=>?_⟩,fun x d=>?_⟩
 ·unfold endsU
  exact ((H2_ (k:=ms.length) y40_).1).map _ fun a b g=>by omega
 ·obtain ⟨k,e,rfl⟩:=mem_ends.1 d
  unfold Fit;omega
 ·obtain ⟨k,e,rfl⟩:=mem_ends.1 d
  omega
theorem Zn9 (h:Cls ms c) (hc:c.length≤64):Z8_ (allL ((c.length+ms.length:Nat):Int)) (allL (c.length:Int))=endsU ms c.length:=by
 have f:=h.many.2;have d:=(Zw2 h hc).1;have hs:IsSet (Z8_ (allL ((c.length+ms.length:Nat):Int)) (allL (c.length:Int))):=by
  unfold Z8_ partL;split
  ·exact (F2_ _).filter _
  ·exact Zb2
 refine hs.ext d fun y=>?_;rw [X5_ (F2_ _) (F2_ _),F3_ y40_ y40_,F3_ y40_ y40_,mem_ends];constructor
 ·rintro ⟨e,h2⟩
  exact ⟨(y - c.length).toNat,y40_,y40_⟩
 ·rintro ⟨k,g,rfl⟩
  omega
theorem Xt0 (h:Cls ms c) (hc:c.length≤64) (x:Int):(Z8_ (allL (c.length:Int)) (lev ms c r)).filter (fun y=>J3_ ms c x y)=rowU ms c r x:=by
 have hs:IsSet (Z8_ (allL (c.length:Int)) (lev ms c r)):=by
  unfold Z8_ partL;split
  ·exact (F2_ _).filter _
  ·exact Zb2
 unfold rowU;refine (hs.filter _).ext ((H2_ hc).filter _) fun y=>?_;rw [List.mem_filter,List.mem_filter,X5_ (F2_ _) (H8_ h r).1,F3_ y40_ y40_,mem_upTo,Bool.and_eq_true,Bool.not_eq_true',← Bool.not_eq_true,memP_iff];constructor
 ·rintro ⟨⟨d,h2⟩,h3⟩
  exact ⟨d,by rw [Int.toNat_of_nonneg d.1];exact h2,h3⟩
 ·rintro ⟨d,h2,h3⟩
  rw [Int.toNat_of_nonneg d.1] at h2;exact ⟨⟨d,h2⟩,h3⟩
theorem Vw1 (h:Cls ms c) (hc:c.length≤64):∀ y∈Z8_ (allL (c.length:Int)) (lev ms c r),(0≤y∧y<(c.length:Int))∧0≤c.getD y.toNat 0∧c.getD y.toNat 0<(ms.length:Int):=by
 intro y d;rw [X5_ (F2_ _) (H8_ h r).1,F3_ y40_ y40_] at d;obtain ⟨g,k⟩:=d;obtain ⟨j,rfl⟩:∃ j:Nat,y=(j:Int):=⟨y.toNat,y40_⟩;have f:=h.rng j y40_;rw [Int.toNat_natCast];refine ⟨g,?_,f.2⟩;have:c.getD j 0≠-1:=fun e=>k (W8_ h (Nat.zero_le r) (lev_src.2 ⟨y40_,e⟩));omega
end
open Go Go.RowKit
section
variable {a b m:Mat} {s:List Int}
end
open Go Go.RowKit
def stepU (c l:List Int) (j:Nat):List Int:=V9_ c (l.take (j+1)) c
theorem Zi5 (c:List Int):∀ (l out:List Int) (y:Int),l≠[]→V9_ c (l ++ [y]) out=(V9_ c l out).set (l.getD (l.length - 1) 0).toNat (nextU c y)
 | [],_,_,h=>absurd rfl h
 | [x],out,y,_=>by
  show V9_ c [x,y] out=_;rw [V9_];rfl
 | x :: z :: l,out,y,_=>by
  have d:=Zi5 c (z :: l) (out.set x.toNat (nextU c z)) y k40_;show V9_ c (x :: z :: (l ++ [y])) out=_;rw [V9_,V9_];have d:V9_ c (z :: (l ++ [y])) (out.set x.toNat (nextU c z))=_:=d;rw [d];congr 2
theorem Zo0 (c:List Int) (x:Int) (l:List Int):stepU c (x :: l) 0=c:=by
 unfold stepU;rw [show (x :: l).take (0+1)=[x] by simp];rfl
theorem Zo1 (c l:List Int) {j:Nat} (h:j+1<l.length):stepU c l (j+1)=(stepU c l j).set (l.getD j 0).toNat (nextU c (l.getD (j+1) 0)):=by
 unfold stepU;rw [List.take_succ_eq_append_getElem (show j+1<l.length by omega),show l[j+1]=l.getD (j+1) 0 by simp [List.getD,h],Zi5 _ _ _ _ (List.ne_nil_of_length_pos k42_)];congr 2;rw [List.length_take,show min (j+1) l.length - 1=j by omega,List.getD_eq_getElem?_getD,List.getD_eq_getElem?_getD,List.getElem?_take_of_lt y40_]
theorem Yc9 (c l:List Int) (h:0<l.length):stepU c l (l.length - 1)=V9_ c l c:=by
 unfold stepU;rw [show l.length - 1+1=l.length by omega,List.take_length]
theorem Yd0 (c l:List Int) (j:Nat):(stepU c l j).length=c.length:=K3_ _ _ _
theorem Vf3 {c l:List Int} {j:Nat} (g:j+1<l.length) (hd:∀ i k,i<k→k<l.length→(l.getD i 0).toNat≠(l.getD k 0).toNat) (hb:∀ i,i+1<l.length→(l.getD i 0).toNat<c.length):(stepU c l j).getD (l.getD (j+1) 0).toNat 0=c.getD (l.getD (j+1) 0).toNat 0:=by
 have e:∀ i,i<j+1→(l.take (j+1)).getD i 0=l.getD i 0:=fun i d=>by
  rw [List.getD_eq_getElem?_getD,List.getD_eq_getElem?_getD,List.getElem?_take_of_lt d]
 have hl:(l.take (j+1)).length=j+1:=k42_;have h:=K4_ c (l.take (j+1)) c (fun i k f m=>by rw [e i y40_,e k y40_];exact hd i k f y40_) (fun i d=>by rw [e i y40_];exact hb i y40_) (l.getD (j+1) 0).toNat;exact h.2 fun i d=>by rw [e i y40_];exact hd i (j+1) y40_ g
theorem Vf4 {w:World} {base g c n:Nat} {zs:List Int} (h:w.ownsRow base 3 1 (.slice (some ⟨g,0,none⟩) n c) n (ints zs)) (i:Nat) (z:Int):(w.setCell ⟨g,i,none⟩ (.int .i64 z)).ownsRow base 3 1 (.slice (some ⟨g,0,none⟩) n c) n (ints (zs.set i z)):=y21_
theorem Zw3 {l:List Int} {i:Nat} (h:i<l.length):(ints l)[i]?=some (.int .i64 (l.getD i 0)):=by
 unfold ints;simp [List.getD,h]
theorem Xt1 (u:Option Addr) (D m g d B:Nat) (c l:List Int) (U:Value) (w:World) (xh:B≤g) (P:w.ownsRow B 3 1 (.slice (some ⟨g,0,none⟩) c.length d) c.length (ints c)) (hr:Row w w.heap.size U l) (hf:∀ k,U.ownBlock=some k→k≠g) (hl2:2≤l.length) (hl:l.length≤100) (xo:c.length≤64)
  (hd:∀ i k,i<k→k<l.length→(l.getD i 0).toNat≠(l.getD k 0).toNat) (x4:∀ i,i+1<l.length→0≤l.getD i 0∧l.getD i 0<(c.length:Int)) (x7:∀ i,i<l.length→0≤l.getD i 0∧l.getD i 0≤100) :
  Calls Tryz.prog 46 #[.agg #[.slice u m D,.slice (some ⟨g,0,none⟩) c.length d],U] w fun e w'=>e=.returned (.tuple #[])∧w'.ownsRow B 3 1 (.slice (some ⟨g,0,none⟩) c.length d) c.length (ints (V9_ c l c))∧Below B w w'∧∀ k,k<w.heap.size→k≠g→w'.heap[k]?=w.heap[k]?:=by
 obtain ⟨r,hW0⟩:∃ r,r=w.alloc (.cells #[.slice u m D,.slice (some ⟨g,0,none⟩) c.length d] 59):=⟨_,rfl⟩;have xb:=hid hW0;have xs:g<w.heap.size:=(P.lt g rfl).2;have xi:B≤w.heap.size:=y40_;have G:Below w.heap.size w r:=y42_;have xc:Hid (Below B w r):=hid (by rw [hW0];exact (Below.refl B w).alloc xi _);have xe:Hid (Blk r w.heap.size 59 #[.slice u m D,.slice (some ⟨g,0,none⟩) c.length d]):=hid y44_;have HO:=hid (I6_ P G);obtain ⟨A,cw,rfl,x2,J⟩:=hr;obtain ⟨C,hA,_,_⟩:=J 0 y40_;subst hA;obtain ⟨n,O⟩:∃ n,l.length=n+1:=⟨l.length - 1,y40_⟩;have HN:=hid O;have R:C.block≠g:=hf C.block rfl;have H:Hid (∀ j,j<n+1→C.block<w.heap.size∧w.cell? (C.add j)=some (.int .i64 (l.getD j 0))):=hid fun j s=>by
  obtain ⟨ad,h1,h2,h3⟩:=J j y40_;cases h1;exact ⟨h2,h3⟩
 have xq:¬ cw=1:=y40_;have xr:(1:Int)≤(cw:Int):=y40_;have xv:1≤n:=y40_;have Hd:=hid hd;have Z:=hid x4;have xf:=hid x7;have xn:=hid x2;obtain ⟨b,o,xm⟩:=C;obtain rfl:xm=none:=by simpa [Addr.add] using World.cell?_spot (H.out 0 y40_).2
 have x1:b<w.heap.size:=(H.out 0 y40_).1;have R:b≠g:=R;have HW:Hid (∀ j:Nat,j<n+1→r.cell? ⟨b,o+j,none⟩=some (.int .i64 (l.getD j 0))):=hid fun j s=>by
  have h:=(H.out j s).2;rw [show (⟨b,o,none⟩:Addr).add j=⟨b,o+j,none⟩ by simp [Addr.add]] at h;exact (G.cell (p:=⟨b,o+j,none⟩) x1).trans h
 have xk:w.heap.size≠g:=y40_;have xw:(n:Int)≤100:=y40_;rw [O];have xa:Hid (∀ q,q<w.heap.size→q≠g→r.heap[q]?=w.heap[q]?):=hid fun q Q _=>G.block q Q;clear hW0 G P hf hd x4 x7 J x2 O H;have xp:(c.length:Int)≤64:=y40_
 go_enter Tryz.func46,Tryz.ntmps46
 go_wp2;rw [← xb.out]
 go_loopw [4,5,9] (fun _ _ V wr=>∃ k:Nat,V=.int .i64 k∧k≤n∧wr.ownsRow B 3 1 (.slice (some ⟨g,0,none⟩) c.length d) c.length (ints (stepU c l k))∧Blk wr w.heap.size 59 #[.slice u m D,.slice (some ⟨g,0,none⟩) c.length d]∧(∀ j:Nat,j<n+1→wr.cell? ⟨b,o+j,none⟩=some (.int .i64 (l.getD j 0)))∧Below B w wr∧∀ q,q<w.heap.size→q≠g→wr.heap[q]?=w.heap[q]?) (fun _ _ V _=>n - (intOf V).toNat)
 case atStart =>
  refine ⟨0,rfl,Nat.zero_le _,?_,xe.out,HW.out,xc.out,xa.out⟩;obtain ⟨x,l',rfl⟩:∃ x l',l=x :: l':=y29_;rw [Zo0];exact HO.out
 case round =>
  obtain ⟨k,rfl,J,x8,x0,x3,hb,x5⟩:=hrel;have W:=hid x5;clear x5;have E:=hid x8;have M:=hid x0;have N:=hid x3;have L:=hid hb;clear x8 x0 x3 hb;by_cases xt:k<n
  ·have xu:(k:Int)<(n:Int):=by omega
   have g1:=N.out (k+1) y40_;have g0:=N.out k y40_;rw [show o+(k+1)=o+1+k by omega] at g1;have kA:=M.out.cell 1;obtain ⟨h1,h2⟩:=Z.out k k43_;obtain ⟨h3,h4⟩:=xf.out (k+1) k43_;obtain ⟨x,hx⟩:∃ x:Nat,l.getD k 0=(x:Int):=⟨(l.getD k 0).toNat,y40_⟩;obtain ⟨y,hy⟩:∃ y:Nat,l.getD (k+1) 0=(y:Int):=⟨(l.getD (k+1) 0).toNat,y40_⟩;have xy:x<c.length:=y40_;have xx:(x:Int)<(c.length:Int):=y40_;have nx:Hid (stepU c l (k+1)=(stepU c l k).set x (nextU c (y:Int))):=hid (by
    rw [Zo1 c l k43_,hx,hy];rfl)
   have sl:=Yd0 c l k;have at_:y<c.length→(stepU c l k).getD y 0=c.getD y 0:=fun _=>by
    have:=Vf3 (c:=c) (l:=l) (j:=k) k43_ Hd.out (fun i hi=>by have:=Z.out i hi;omega);rw [hy] at this;exact this
   rw [hx] at g0;rw [hy] at g1;have xz:(y:Int)≤100:=y40_;have I:Below wr.heap.size wr wr.drew:=(Below.refl _ wr).drew;have F:=hid (I6_ E.out I);have X:=hid (M.out.below I M.out.lt);have Y:Hid (∀ j:Nat,j<n+1→wr.drew.cell? ⟨b,o+j,none⟩=some (.int .i64 (l.getD j 0))):=hid fun j s=>(I.cell (p:=⟨b,o+j,none⟩) (Nat.lt_of_lt_of_le x1 L.out.size)).trans (N.out j s);have xd:=hid L.out.drew;have xg:=Y.out k y40_;rw [hx] at xg;have y0:=X.out.cell 1;have fG:=F.out.frozenAt x;clear I;have HPut:Hid (∀ z:Int,nextU c (y:Int)=z→(wr.drew.setCell ⟨g,x,none⟩ (.int .i64 z)).ownsRow B 3 1 (.slice (some ⟨g,0,none⟩) c.length d) c.length (ints (stepU c l (k+1)))∧Blk (wr.drew.setCell ⟨g,x,none⟩ (.int .i64 z)) w.heap.size 59 #[.slice u m D,.slice (some ⟨g,0,none⟩) c.length d]∧(∀ j:Nat,j<n+1→(wr.drew.setCell ⟨g,x,none⟩ (.int .i64 z)).cell? ⟨b,o+j,none⟩=some (.int .i64 (l.getD j 0)))∧Below B w (wr.drew.setCell ⟨g,x,none⟩ (.int .i64 z))∧∀ q,q<w.heap.size→q≠g→(wr.drew.setCell ⟨g,x,none⟩ (.int .i64 z)).heap[q]?=w.heap[q]?):=hid fun z K=>by
    refine ⟨?_,X.out.far (p:=⟨g,x,none⟩) xk _,fun j s=>?_,?_,fun q Q x6=>?_⟩
    ·rw [nx.out,K]
     exact Vf4 F.out x z
    ·rw [World.cell?_of_block (w:=wr.drew) (Below.heap_setCell _ _ _ _ R)]
     exact Y.out j s
    ·exact xd.out.setCell (p:=⟨g,x,none⟩) xh _
    ·rw [Below.heap_setCell _ _ _ _ x6]
     exact W.out q Q x6
   have eX:=Zw3 (l:=stepU c l k) (i:=x) y40_;have qx:=(F.out.cellAt x y40_).trans eX;have qY:=fun S:y<c.length=>((E.out.cellAt y y40_).trans (Zw3 (l:=stepU c l k) (i:=y) y40_)).trans (by rw [at_ S]);have qYd:=fun S:y<c.length=>((F.out.cellAt y y40_).trans (Zw3 (l:=stepU c l k) (i:=y) y40_)).trans (by rw [at_ S]);by_cases x9:y<c.length
   ·have T:(y:Int)<(c.length:Int):=by omega
    have qy:=qY x9;have y1:=qYd x9;have K:nextU c (y:Int)=c.getD y 0:=by unfold nextU;rw [if_pos T];rfl
    generalize c.getD y 0=z at *
    have Hz:=hid K;clear K;exact j8_
   ·have T:¬ (y:Int)<(c.length:Int):=by omega
    have Hz:Hid (nextU c (y:Int)=(y:Int) - (c.length:Int)):=hid (by unfold nextU;rw [if_neg T]);have w1:IntKind.i64.wrap ((y:Int) - (c.length:Int))=(y:Int) - (c.length:Int):=y41_;exact j8_
  ·have xl:k=n:=by omega
   subst xl;have xj:Hid (stepU c l k=V9_ c l c):=hid (by
    have:=Yc9 c l k43_
    rwa [HN.out,Nat.add_sub_cancel] at this)
   rw [xj.out] at E;go_wp2;refine bodyPost_end (v:=.tuple #[]) (by simp [results,Tryz.results46,go_sem]) rfl ?_;exact ⟨rfl,E.out,L.out,W.out⟩
open Go Go.RowKit
noncomputable def rsum (ms:List Mat) (u:List Int):Nat:=(ms.map fun m=>rkP 4 m (memP u)).sum
theorem Yw2 (ms:List Mat) (u:List Int):∀ k,k≤ms.length→sumTo (fun k=>rkP 4 (ms.getD k default) (memP u)) k=rsum (ms.take k) u
 | 0,_=>rfl
 | k+1,h=>by
  show sumTo (fun k=>rkP 4 (ms.getD k default) (memP u)) k+rkP 4 (ms.getD k default) (memP u)=_;rw [Yw2 ms u k y40_];unfold rsum;rw [List.take_succ_eq_append_getElem y40_,List.map_append,List.sum_append];simp [List.getD,show k<ms.length by omega]
theorem Yd1 (ms:List Mat) (u:List Int):Ya7 ms u=rsum ms u:=by
 have:=Yw2 ms u ms.length (le_refl _);rw [List.take_length] at this;exact this
theorem Yd2 (m:Mat) (ms:List Mat) (u:List Int):rsum (m :: ms) u=rkP 4 m (memP u)+rsum ms u:=by
 unfold rsum;rw [List.map_cons,List.sum_cons]
theorem Zw4 (m:Mat) (u:List Int):∀ k,rsum (List.replicate k m) u=k * rkP 4 m (memP u)
 | 0=>by rw [Nat.zero_mul];rfl
 | k+1=>by
  rw [List.replicate_succ,Yd2,Zw4 m u k,Nat.succ_mul];omega
section
variable {ms ms':List Mat} {n:Nat} {c u c' u':List Int}
theorem Zz6 (h:Several ms n) (f:MaxU ms n c u):c.length=n∧InN n u∧u.length=rsum ms u+(Z3_ c (-1)).length∧∀ v,InN n v→v.length≤rsum ms v+(Z3_ c (-1)).length:=by
 obtain ⟨e,h2,h3,d,_⟩:=Zg5 h f;rw [Yd1] at d;exact ⟨h2,h3,d,fun v g=>by rw [← Yd1];exact Vi4 e (by rw [h2];exact g)⟩
theorem Yw3 {v:List Int} (h:InN n v):v.length≤n:=X0_ h
theorem P4_ (c:List Int) (k:Int):(Z3_ c k).length≤c.length:=z27_
theorem Zw5:∀ n,cnt allP n=n
 | 0=>rfl
 | n+1=>by rw [X4_,Zw5 n];rfl
theorem Yd3 {m:Mat} {s:List Int} (h:mayI m s=true):rankT m s=(rkP 4 m (memP s):Nat):=if_pos h
theorem Ym8 (h:n≤64):InN n (allL (n:Int))∧(allL (n:Int)).length=n:=by
 have c:=Zx0 (n:=(n:Int)) y40_ y40_;rw [Int.toNat_natCast] at c;refine ⟨c,?_⟩;rw [Y9_ c,I3_ (Q:=allP) fun i d=>memP_iff.2 ((F3_ y40_ y40_ _).2 y40_),Zw5]
def unU (n a:Int):Mat:=.mk 0 n a 0 [] []
theorem G2_ {n a:Int} (c:0≤a) (d:a≤n) (h2:n≤64):chk (unU n a)=0:=by
 have hd:dp 4 (unU n a)=1:=by show (if nest (0:Int) then _ else 1)=1;rw [if_neg q41_]
 have hb:bad (unU n a)=0:=Xh7 (by show (0:Int)≤0∧(0:Int)<10;omega) ⟨by show 0≤n;omega,h2,c,by show a≤64;omega⟩ rfl (by
  show decide (a≤n)=true;rw [decide_eq_true_iff];exact d)
 refine chk_ok.2 ⟨y40_,?_⟩;rw [ok,decide_eq_true hb];rfl
theorem Zw6 {n a:Int} {u:List Int} (c:InN n.toNat u):rkP 4 (unU n a) (memP u)=min a.toNat u.length:=by
 rw [rkP_0 rfl,Y9_ c];rfl
theorem Xt2 (m:Nat):∀ l:List Int,(l.map fun a=>min a.toNat m).sum≤(l.map Int.toNat).sum∧(m≤(l.map fun a=>min a.toNat m).sum∨(l.map fun a=>min a.toNat m).sum=(l.map Int.toNat).sum)
 | []=>⟨le_refl _,.inr rfl⟩
 | a :: r=>by
  obtain ⟨c,h2⟩:=Xt2 m r;simp only [List.map_cons,List.sum_cons];generalize (r.map fun a=>min a.toNat m).sum=x at *
  generalize (r.map Int.toNat).sum=y at *
  omega
theorem Zw7 {N:Int} (c:N.toNat=n) (d:InN n u):∀ l:List Int,rsum (l.map (unU N)) u=(l.map fun a=>min a.toNat u.length).sum
 | []=>rfl
 | a :: r=>by rw [List.map_cons,Yd2,Zw7 c d r,List.map_cons,List.sum_cons,Zw6 (by rw [c];exact d)]
theorem Vw2 {N:Int} {l:List Int} (f:N.toNat=n) (h:Several (l.map (unU N)) n) (m:MaxU (l.map (unU N)) n c u):n=(Z3_ c (-1)).length+min ((l.map Int.toNat).sum) n:=by
 obtain ⟨hl,e,g,j⟩:=Zz6 h m;have d:=Ym8 (n:=n) h.n64;have k:=j _ d.1;rw [Zw7 f e] at g;rw [Zw7 f d.1,d.2] at k;have o:=Yw3 e;have p:=P4_ c (-1);have m1:=Xt2 u.length l;have m2:=Xt2 n l;omega
end
theorem Xc8 (_E:Nat→Addr) (ms:List Mat) (v:Value) (w:World) (hl:MatL w w.heap.size v ms) (hs:∀ m∈ms,Sml m) (x7:ms.length≤1000) :
  Calls Tryz.prog 34 #[v] w (Says w (sevB ms)):=by
 have y:=hid hl;have P:=hid hs;obtain ⟨N,dl,rfl,_⟩:=id hl;have x6:(ms.length:Int)≤1000:=y40_;clear hl hs
 go_enter Tryz.func34,Tryz.ntmps34
 go_wp2_with fail
 go_loopw [3] (fun u wr=>∃ k:Nat,u=.int .i64 k∧k≤ms.length∧Below w.heap.size w wr∧∀ j,j<k→oddM ms (ms.getD j default)=false) (fun u _=>ms.length - (intOf u).toNat)
 case atStart=>exact ⟨0,rfl,Nat.zero_le _,Below.refl _ _,fun j g=>absurd g (Nat.not_lt_zero _)⟩
 case round =>
  obtain ⟨k,rfl,hk,d,J⟩:=hrel;have HBr:=hid d;have z:=hid J;clear J;by_cases q:k<ms.length
  ·have x5:(k:Int)<(ms.length:Int):=by omega
   have x0:(0:Int)<(ms.length:Int):=y40_;have x4:0<ms.length:=y40_;obtain ⟨c,Z,M,L,C,I,F⟩:=MatL.one y.out q;obtain ⟨Q,Y,x9,x8,D,_,G⟩:=MatL.one y.out (show 0<ms.length by omega);obtain rfl:N=some c:=(Value.slice.inj C).1;obtain rfl:c=Q:=Option.some.inj (Value.slice.inj D).1;have H:c.add (0 * 6)=c:=by obtain ⟨x1,x2,X⟩:=c;cases X<;>simp [Addr.add]
   have r:ms.getD k default∈ms:=by rw [List.getD_eq_getElem?_getD,List.getElem?_eq_getElem q];exact List.getElem_mem q
   have K:=P.out _ r;have hC:Hid (∀ W,Below wr.heap.size wr W→Calls Tryz.prog 33 #[.agg #[.int .i64 (ms.getD k default).t,.int .i64 (ms.getD k default).n,.int .i64 (ms.getD k default).a,.int .i64 (ms.getD k default).b,M,L]] W fun e w'=>e=.returned (.int .i64 (chk (ms.getD k default)))∧Below wr.heap.size wr w'):=hid fun W hW=>by
    refine (Q1_ (ms.getD k default) _ W (I.up (Z0_ d (le_refl _) hW)) K).mono ?_;rintro e w' ⟨rfl,hb⟩;exact ⟨rfl,Z0_ hW (le_refl _) hb⟩
   have hK:Hid (∀ W,Below wr.heap.size wr W→(W.cell? (c.add (k * 6))=some (.int .i64 (ms.getD k default).t)∧W.cell? ⟨(c.add (k * 6)).block,(c.add (k * 6)).off+1,none⟩=some (.int .i64 (ms.getD k default).n)∧W.cell? ⟨(c.add (k * 6)).block,(c.add (k * 6)).off+2,none⟩=some (.int .i64 (ms.getD k default).a)∧W.cell? ⟨(c.add (k * 6)).block,(c.add (k * 6)).off+3,none⟩=some (.int .i64 (ms.getD k default).b)∧W.cell? ⟨(c.add (k * 6)).block,(c.add (k * 6)).off+4,none⟩=some M∧W.cell? ⟨(c.add (k * 6)).block,(c.add (k * 6)).off+5,none⟩=some L)∧W.cell? ⟨c.block,c.off+1,none⟩=some (.int .i64 (ms.getD 0 default).n)):=hid fun W hW=>by
    have o:=F W (Z0_ d (le_refl _) hW);have h2:=(G W (Z0_ d (le_refl _) hW)).2.1;rw [H] at h2;exact ⟨o,h2⟩
   have hO:Hid (oddM ms (ms.getD k default)=(!((ms.getD k default).n==(ms.getD 0 default).n) || !(chk (ms.getD k default)==0))):=hid rfl;have hbad:Hid (oddM ms (ms.getD k default)=true→sevB ms=false):=hid fun h=>by
    unfold sevB;rw [show ms.any (oddM ms)=true from List.any_eq_true.2 ⟨_,r,h⟩];simp
   have hgood:Hid (oddM ms (ms.getD k default)=false→∀ j,j<k+1→oddM ms (ms.getD j default)=false):=hid fun h j g=>by
    by_cases e:j=k
    ·rw [e];exact h
    ·exact z.out j y40_
   generalize oddM ms (ms.getD k default)=od at *
   generalize chk (ms.getD k default)=ch at *
   generalize (ms.getD k default).n=n1 at *
   generalize (ms.getD k default).t=t1 at *
   generalize (ms.getD k default).a=a1 at *
   generalize (ms.getD k default).b=b1 at *
   generalize (ms.getD 0 default).n=n0 at *
   clear C D I F G H r K d;by_cases p:ch=0
   ·subst p
    by_cases s:n1=n0
    ·subst s
     have hod:od=false:=by rw [hO.out];simp
     have O:=hid (hgood.out hod);clear hO hod hbad hgood;go_wp2;refine Z6_ wr.heap.size wr z40_ z40_ (Below.refl _ _) ?_
     iterate 18 (first
      | go_big_quiet_skip
      | go_big_quiet_step (with_reducible exact hC.out _)
      | (go_big_quiet_want;apply Exists.intro;refine ⟨fun W hW=>?_,?_⟩;(· obtain ⟨⟨k0,k1,k2,k3,k4,k5⟩,k6⟩:=hK.out W hW;go_simp;first | exact rfl | exact ⟨rfl,rfl⟩);go_simp;go_big_quiet_on))
     refine wpQuiet_nil ?_;intro w7 hB7;have HBn:=hid (Z0_ HBr.out (le_refl _) hB7);clear hB7 hC hK;go_wp2
     go_roundw
     case rel=>exact ⟨k+1,j41_,y40_,HBn.out,O.out⟩
     exact mz_
    ·have U:(n1 != n0)=true:=by simpa using s
     have hod:od=true:=by rw [hO.out];simp [s]
     exact k3_
   ·have U:(ch != 0)=true:=by simpa using p
    have hod:od=true:=by rw [hO.out];simp [p]
    exact k3_
  ·have T:k=ms.length:=by omega
   subst T;have E:ms.any (oddM ms)=false:=List.any_eq_false.2 fun x V=>by
    obtain ⟨j,g,rfl⟩:=List.mem_iff_getElem.1 V;have:=z.out j g;rw [show ms.getD j default=ms[j] by simp [List.getD,g]] at this;rw [this];simp
   have hsv:sevB ms=(decide (1≤ms.length) && decide (ms.length≤8)):=by unfold sevB;rw [E];simp
   clear E d;by_cases o:1≤ms.length
   ·have R:(1:Int)≤(ms.length:Int):=by omega
    by_cases B:ms.length≤8
    ·have S:(ms.length:Int)≤8:=by omega
     have Hr:=hid (show sevB ms=true by rw [hsv,decide_eq_true o,decide_eq_true B];rfl);exact j17_
    ·have S:¬ (ms.length:Int)≤8:=by omega
     have Hr:=hid (show sevB ms=false by rw [hsv,decide_eq_false B];simp);exact j17_
   ·have R:¬ (1:Int)≤(ms.length:Int):=by omega
    have Hr:=hid (show sevB ms=false by rw [hsv,decide_eq_false o];rfl);exact j17_
end Go.Proofs.YtigobiacbficaaaGreatDoor.Wp
