/- union's Bound, walked (written by gen_ubound.py). -/
import Derived.Test.YtheeajnkiniopaaGreatDoorVI10C
import Derived.Test.YtheeajnkiniopaaGreatDoorZI
import Derived.Test.YtheeajnkiniopaaGreatDoorVReach
import Derived.Test.YtheeajnkiniopaaGreatDoorUPure
import Derived.Test.YtheeajnkiniopaaGreatDoorUCls
import Derived.Test.YtheeajnkiniopaaGreatDoorZT
import Derived.Test.YtheeajnkiniopaaGreatDoorX0A
import Derived.Test.YtheeajnkiniopaaGreatDoorX0B
set_option maxHeartbeats 16000000
set_option maxRecDepth 100000
open Go.Lib (hid)
open Nat (le_refl)
namespace Go.Proofs.YtheeajnkiniopaaGreatDoor.Wp
private theorem j3_ {P:Prop} (h:P:=by
 have Hb:=hid (hbad.out hod)
 clear hO hod hbad hgood
 rw [Hb.out]
 go_wp2
 refine Z6_ wr.heap.size wr (by kernel_rfl) (by kernel_rfl) (Below.refl _ _) ?_
 iterate 18 (first
  | go_big_quiet_skip
  | go_big_quiet_step (with_reducible exact hC.out _)
  | (go_big_quiet_want;apply Exists.intro;refine ⟨fun W hW=>?_,?_⟩;(· obtain ⟨⟨k0,k1,k2,k3,k4,k5⟩,k6⟩:=hK.out W hW;go_simp;first | exact rfl | exact ⟨rfl,rfl⟩);go_simp;go_big_quiet_on))
 refine wpQuiet_nil ?_
 intro w7 hB7
 have HBn:=hid (Z0_ HBr.out (le_refl _) hB7)
 clear hB7 hC hK
 go_wp2
 go_ret
 exact ⟨rfl,HBn.out⟩):P:=h
private theorem j8_ {P:Prop} (h:P:=by
 clear qY qYd at_ eX sl hx hy h1 h2 h3 h4
 go_wp2
 go_region
 all_goals
  go_wp2
  go_roundw
  case rel =>
   have h:=HPut.out _ Hz.out
   exact ⟨k+1,by go_num,by omega,h.1,h.2.1,h.2.2.1,h.2.2.2.1,h.2.2.2.2⟩
  case measure=>simp [intOf];omega):P:=h
open Go Go.RowKit
noncomputable def Q8_ (ms:List Mat) (u:List Int):Nat→Int
 | 0=>0
 | k+1=>Q8_ ms u k+rankT (ms.getD k default) u
noncomputable def B1_ (ms:List Mat) (u:List Int):Int:=if (sevB ms && mayI (ms.getD 0 default) u)=true then (ms.getD 0 default).n - (u.length:Int)+Q8_ ms u ms.length else -1
theorem Yv6 {ms:List Mat} {u:List Int} (h:∀ k,k<ms.length→-1≤rankT (ms.getD k default) u∧rankT (ms.getD k default) u≤1000):∀ k:Nat,k≤ms.length→-(k:Int)≤Q8_ ms u k∧Q8_ ms u k≤1000 * (k:Int)
 | 0,_=>⟨by show _≤(0:Int);omega,by show (0:Int)≤_;omega⟩
 | k+1,hk=>by
  have c:=Yv6 h k q40_;have d:=h k q40_;show _≤Q8_ ms u k+rankT (ms.getD k default) u∧Q8_ ms u k+rankT (ms.getD k default) u≤_;omega
theorem G0_ (E:Nat→Addr) (ms:List Mat) (v sv:Value) (u:List Int) (w:World) (hl:MatL w w.heap.size v ms) (hs:∀ m∈ms,Sml m) (H:Row w w.heap.size sv u) (xv:u.length≤1000) (C:Env E w) (R:∀ k,k<ms.length→-1≤rankT (ms.getD k default) u∧rankT (ms.getD k default) u≤1000) :
  Calls Tryz.prog 16 #[v,sv] w (Tells w (B1_ ms u)):=by
 have y:=hid (T0_ E ms v w hl hs C);have HL:=hid hl;have Hs:=hid hs;have J:=hid C;have K:=hid H;have Y:=hid R;obtain ⟨Al,Z,rfl,_⟩:=id hl;obtain ⟨As,cs,rfl,_⟩:=id H;have xw:(u.length:Int)≤1000:=q40_;rcases hsv:sevB ms with _ | _
 ·rw [hsv] at y
  rw [show B1_ ms u=-1 by unfold B1_;rw [hsv];rfl];clear hl hs H C R hsv
  go_enter Tryz.func16,Tryz.ntmps16
  go_wp2_with fail
  refine y.out.mono ?_;rintro e I ⟨rfl,hb⟩;have c:=hid hb;clear hb
  go_wp2_with fail
  go_ret;exact ⟨rfl,c.out⟩
 ·rw [hsv] at y
  have D:=(sev_iff.1 hsv).1;obtain ⟨G,xt⟩:=D.many;obtain ⟨ad,d,lv,iv,g,j,p⟩:=MatL.one hl G;obtain ⟨rfl,rfl⟩:Al=some ad∧Z=d:=⟨(Value.slice.inj g).1,(Value.slice.inj g).2.2⟩;have N:=hid j;have L:=hid p;have xs:(0:Int)<(ms.length:Int):=q40_;have xu:(ms.length:Int)≤8:=q40_;have r:ms.getD 0 default∈ms:=by rw [List.getD_eq_getElem?_getD,List.getElem?_eq_getElem G];exact List.getElem_mem G
  have M:=hid (hs _ r);have x6:ad.add (0 * 6)=ad:=x43_;have X:=hid x6;have xo:=(Y0_ (D.may 0 G).1);have xn:=D.n64;obtain ⟨m0,Q⟩:∃ m0,ms.getD 0 default=m0:=⟨_,rfl⟩;rw [Q] at M N L xo xn;have U:=hid Q;have V:=hid hsv;obtain ⟨z,S⟩:∃ z,B1_ ms u=z:=⟨_,rfl⟩;have W:=hid S;rw [S];clear S;clear hl hs H C R hsv D g j p r x6 Q
  go_enter Tryz.func16,Tryz.ntmps16
  go_wp2_with fail
  refine y.out.mono ?_;rintro e I ⟨rfl,hb⟩;have c:=hid hb;have q:=L.out I hb;rw [X.out] at q;obtain ⟨q0,q1,q2,q3,q4,q5⟩:=q;clear hb;rcases hmy:mayI m0 u with _ | _
  ·have o:=hid (Zq1 E m0 _ _ u I (N.out.up c.out) M.out (K.out.up c.out) q40_ (J.out.up c.out))
   have O:Hid (z=-1):=hid (by rw [← W.out];unfold B1_;rw [V.out,U.out,hmy];rfl);rw [hmy] at o;clear hmy
   go_wp2_with fail
   refine o.out.mono ?_;rintro e w2 ⟨rfl,h⟩;have x:=hid (Z0_ c.out (le_refl _) h);clear h
   go_wp2_with fail
   go_ret;exact ⟨by rw [O.out];rfl,x.out⟩
  ·have o:=hid (Zq1 E m0 _ _ u I (N.out.up c.out) M.out (K.out.up c.out) q40_ (J.out.up c.out))
   have O:Hid (z=m0.n - (u.length:Int)+Q8_ ms u ms.length):=hid (by rw [← W.out];unfold B1_;rw [V.out,U.out,hmy];rfl);rw [hmy] at o;clear hmy
   go_wp2_with fail
   refine o.out.mono ?_;rintro e w2 ⟨rfl,h⟩;have x:=hid (Z0_ c.out (le_refl _) h);have p1:=(L.out w2 x.out).2.1;rw [X.out] at p1;have xx:IntKind.i64.wrap (m0.n - (u.length:Int))=m0.n - (u.length:Int):=k40_;clear h q0 q1 q2 q3 q4 q5
   go_wp2_with fail
   go_loopw [5,7,28] (fun v5 _ T wr=>∃ k:Nat,T=.int .i64 k∧k≤ms.length∧v5=.int .i64 (m0.n - (u.length:Int)+Q8_ ms u k)∧Below w.heap.size w wr) (fun _ _ T _=>ms.length - (intOf T).toNat)
   case atStart=>exact ⟨0,rfl,Nat.zero_le _,by show _=Value.int .i64 (_+0);rw [Int.add_zero],x.out⟩
   case round =>
    obtain ⟨k,rfl,hk,rfl,F⟩:=hrel;have xc:=hid F;by_cases hlt:k<ms.length
    ·have xr:(k:Int)<(ms.length:Int):=by omega
     obtain ⟨xg,d2,xq,xp,g,j,p⟩:=MatL.one HL.out hlt;obtain ⟨rfl,rfl⟩:ad=xg∧Z=d2:=⟨Option.some.inj (Value.slice.inj g).1,(Value.slice.inj g).2.2⟩;obtain ⟨l3,i3,x5,xm,xk⟩:=j.open;obtain ⟨rfl,rfl⟩:xq=l3∧xp=i3:=by simpa using x5
     obtain ⟨xa,xi,rfl,_⟩:=xm;obtain ⟨x9,xh,rfl,_⟩:=xk;clear x5;have r:ms.getD k default∈ms:=q43_;have x8:=Hs.out _ r;have xj:=Yv6 Y.out k q40_;have h:=Y.out k hlt;have x7:Q8_ ms u (k+1)=Q8_ ms u k+rankT (ms.getD k default) u:=rfl;obtain ⟨q0,q1,q2,q3,q4,q5⟩:=p _ F;generalize ms.getD k default=mk at *
     obtain ⟨B,P⟩:∃ B,B=wr.alloc (.cells #[.int .i64 mk.t,.int .i64 mk.n,.int .i64 mk.a,.int .i64 mk.b,.slice xa mk.l.length xi,.slice x9 mk.i.length xh] 37):=⟨_,rfl⟩;have x4:Below wr.heap.size wr B:=by rw [P];exact (Below.refl _ wr).alloc (le_refl _) _
     have s:=hid (Z0_ F (le_refl _) x4);have xf:=hid (Yv2 E mk _ _ u B (j.up s.out) x8 (K.out.up s.out) q40_ (J.out.up s.out));have xe:=hid P;have xd:=hid x7;generalize rankT mk u=rk at *
     generalize Q8_ ms u k=rt at *
     have xy:IntKind.i64.wrap (m0.n - (u.length:Int)+rt+rk)=m0.n - (u.length:Int)+rt+rk:=k40_;clear g j p r x8 xj h x7 P x4 F
     go_wp2_with fail
     rw [← xe.out];refine xf.out.mono ?_;rintro e w9 ⟨rfl,x0⟩;have xb:=hid (Z0_ s.out (le_refl _) x0);clear x0
     go_wp2_with fail
     go_roundw
     case rel=>exact ⟨k+1,x41_,q40_,by rw [xd.out];congr 1;omega,xb.out⟩
     exact mz_
    ·have xl:k=ms.length:=by omega
     subst xl
     go_wp2_with fail
     go_ret;exact ⟨by rw [O.out];rfl,xc.out⟩
section
variable {ms ms':List Mat} {n:Nat} {c u c' u':List Int}
theorem Yv7 {m:Mat} {s:List Int} (h:mayI m s=true):rankT m s=(rkP 4 m (memP s):Nat):=if_pos h
def unU (n a:Int):Mat:=.mk 0 n a 0 [] []
end
open Go Go.RowKit
def indU (m:Mat) (s:List Int):Bool:=mayI m s && decide (min m.a.toNat (cnt (memP s) (nN m))=s.length)
theorem O7_ {m:Mat} (h:m.t=0) (s:List Int):rankT m s=if mayI m s then ((min m.a.toNat (cnt (memP s) (nN m)):Nat):Int) else -1:=by
 unfold rankT;rw [rkP_0 h]
theorem Vv5 {m:Mat} (h:m.t=0) (s:List Int):indT m s=indU m s:=by
 unfold indT indU;rw [O7_ h];cases mayI m s
 ·simp
 ·simp
  omega
def Jz2 (f:Int→List Int→Bool) (c:List Int) (x y:Int):Bool:=decide (0≤c.getD y.toNat 0) && (!(c.getD y.toNat 0==c.getD x.toNat 0) && f (c.getD y.toNat 0) (Y1_ (Z8_ (Z3_ c (c.getD y.toNat 0)) [y]) [x]))
def roomC (f:Int→List Int→Bool) (c:List Int) (x k:Int):Bool:=!(c.getD x.toNat 0==k) && f k (Y1_ (Z3_ c k) [x])
def arcsC (f:Int→List Int→Bool) (K:Nat) (c:List Int) (x:Int):List Int:=((upTo c.length).filter fun y=>Jz2 f c x y) ++ ((upTo K).filter fun k=>roomC f c x k).map fun k=>(c.length:Int)+k
def adjC (f:Int→List Int→Bool) (K:Nat) (c:List Int):List (List Int):=(upTo c.length).map (arcsC f K c) ++ List.replicate K []
theorem Jz3 (ms:List Mat) (c:List Int) (f:Int→List Int→Bool) (d:∀ k s,indT (mAt ms k) s=f k s):adjU ms c=adjC f ms.length c:=by
 obtain rfl:(fun k s=>indT (mAt ms k) s)=f:=funext fun k=>funext fun s=>d k s;rfl
instance nearDec (adj:List (List Int)) (dst:List Int):∀ (n:Nat) (x:Int),Decidable (Near adj dst n x)
 | 0,x=>inferInstanceAs (Decidable (x∈dst))
 | n+1,x=>by
  have:=nearDec adj dst n;exact inferInstanceAs (Decidable (Near adj dst n x∨∃ y∈adj.getD x.toNat [],Near adj dst n y))
theorem Yg2 {adj:List (List Int)} {dst S:List Int} (d:∀ x∈S,∀ y∈adj.getD x.toNat [],y∈S) (e:∀ x∈S,x∉dst):∀ (k:Nat) (x:Int),x∈S→¬ Near adj dst k x
 | 0,x,hx,c=>e x hx c
 | k+1,x,hx,c=>by
  rcases c with c | ⟨y,f,c⟩
  ·exact Yg2 d e k x hx c
  ·exact Yg2 d e k y (d x hx y f) c
def two31:List Mat:=[unU 3 1,unU 3 1]
theorem Vv6 (k:Int):(mAt two31 k).t=0:=by
 unfold mAt two31;rcases k.toNat with _ | _ | j<;>rfl
theorem adj31 (c:List Int):adjU two31 c=adjC (fun k s=>indU (mAt two31 k) s) 2 c:=Jz3 two31 c _ fun k s=>Vv5 (Vv6 k) s
theorem Vm4:adjU two31 [-1,-1,-1]=[[3,4],[3,4],[3,4],[],[]]:=by rw [adj31];decide +kernel
theorem Vm5:adjU two31 [0,-1,-1]=[[4],[0,4],[0,4],[],[]]:=by rw [adj31];decide +kernel
theorem Xk5:adjU two31 [0,1,-1]=[[1],[0],[0,1],[],[]]:=by rw [adj31];decide +kernel
theorem Vm6:Greedy (adjU two31 [-1,-1,-1]) (endsU two31 3) (Z3_ [-1,-1,-1] (-1)) 1 [0,3]:=by
 rw [Vm4,show endsU two31 3=[3,4] from by decide +kernel,show Z3_ [-1,-1,-1] (-1)=[0,1,2] from by decide +kernel];exact k23_
theorem Vm7:Greedy (adjU two31 [0,-1,-1]) (endsU two31 3) (Z3_ [0,-1,-1] (-1)) 1 [1,4]:=by
 rw [Vm5,show endsU two31 3=[3,4] from by decide +kernel,show Z3_ [0,-1,-1] (-1)=[1,2] from by decide +kernel];exact k23_
theorem Vv7:MaxU two31 3 [0,1,-1] [0,1,2]:=by
 have c1:ChainU two31 3 1 [0,-1,-1]:=ChainU.succ (c:=[-1,-1,-1]) .zero Vm6;have c2:ChainU two31 3 2 [0,1,-1]:=ChainU.succ (c:=[0,-1,-1]) c1 Vm7;refine ⟨⟨2,c2⟩,?_,?_⟩
 ·unfold StopU
  rw [Xk5,show endsU two31 [0,1,-1].length=[3,4] from by decide +kernel,show Z3_ [0,1,-1] (-1)=[2] from by decide +kernel];intro y d k;exact Yg2 (S:=[0,1,2]) q41_ q41_ k y (by simp at d;subst d;decide)
 ·unfold comeU
  rw [Xk5];decide +kernel
theorem Vv8:sevB two31=true:=z41_
theorem Jz4 {c u:List Int} (h:MaxU two31 (nN (two31.getD 0 default)) c u):c=[0,1,-1]∧u=[0,1,2]:=Zf8 h Vv7
theorem Vm8:B1_ two31 [0,1,2]=2:=by
 unfold B1_;rw [show Q8_ two31 [0,1,2] two31.length=0+rankT (unU 3 1) [0,1,2]+rankT (unU 3 1) [0,1,2] from rfl,O7_ rfl];decide +kernel
theorem Vm9:B1_ [unU 3 1] []=3:=by
 unfold B1_;rw [show Q8_ [unU 3 1] [] [unU 3 1].length=0+rankT (unU 3 1) [] from rfl,O7_ rfl];decide +kernel
theorem Vn0:B1_ [unU 3 1] [0,1,2]=1:=by
 unfold B1_;rw [show Q8_ [unU 3 1] [0,1,2] [unU 3 1].length=0+rankT (unU 3 1) [0,1,2] from rfl,O7_ rfl];decide +kernel
theorem Vn1:B1_ [] []=-1:=by
 unfold B1_;rw [if_neg q41_]
theorem Vn2:sevB []=false:=q41_
theorem Jz5:Z3_ [1,-1,1] 1=[0,2]:=z41_
theorem Yp0 (ms:List Mat) (u:List Int) (h:ms=two31∨ms=[unU 3 1]∨ms=[]) (_hu:u.length≤3):∀ k,k<ms.length→-1≤rankT (ms.getD k default) u∧rankT (ms.getD k default) u≤1000:=fun k c=>by
 have e:-1≤rankT (unU 3 1) u∧rankT (unU 3 1) u≤1000:=by
  rw [O7_ rfl];have:(unU 3 1).a.toNat=1:=rfl;split<;>omega
 have d:ms.getD k default=unU 3 1:=by
  rcases h with rfl | rfl | rfl
  ·have:k=0∨k=1:=by have:two31.length=2:=rfl;omega
   rcases this with rfl | rfl<;>rfl
  ·have:k=0:=by have:[unU 3 1].length=1:=rfl;omega
   subst this;rfl
  ·exact absurd c (Nat.not_lt_zero _)
 rw [d];exact e
open Go Go.RowKit
section
variable {a b m:Mat} {s:List Int}
end
open Go Go.RowKit
def stepU (c l:List Int) (j:Nat):List Int:=V9_ c (l.take (j+1)) c
theorem Zf6 (c:List Int):∀ (l out:List Int) (y:Int),l≠[]→V9_ c (l ++ [y]) out=(V9_ c l out).set (l.getD (l.length - 1) 0).toNat (nextU c y)
 | [],_,_,h=>absurd rfl h
 | [x],out,y,_=>by
  show V9_ c [x,y] out=_;rw [V9_];rfl
 | x :: z :: l,out,y,_=>by
  have d:=Zf6 c (z :: l) (out.set x.toNat (nextU c z)) y z40_;show V9_ c (x :: z :: (l ++ [y])) out=_;rw [V9_,V9_];have d:V9_ c (z :: (l ++ [y])) (out.set x.toNat (nextU c z))=_:=d;rw [d];congr 2
theorem Zk9 (c:List Int) (x:Int) (l:List Int):stepU c (x :: l) 0=c:=by
 unfold stepU;rw [show (x :: l).take (0+1)=[x] by simp];rfl
theorem Zl0 (c l:List Int) {j:Nat} (h:j+1<l.length):stepU c l (j+1)=(stepU c l j).set (l.getD j 0).toNat (nextU c (l.getD (j+1) 0)):=by
 unfold stepU;rw [List.take_succ_eq_append_getElem (show j+1<l.length by omega),show l[j+1]=l.getD (j+1) 0 by simp [List.getD,h],Zf6 _ _ _ _ (List.ne_nil_of_length_pos z42_)];congr 2;rw [List.length_take,show min (j+1) l.length - 1=j by omega,List.getD_eq_getElem?_getD,List.getD_eq_getElem?_getD,List.getElem?_take_of_lt q40_]
theorem Yv8 (c l:List Int) (h:0<l.length):stepU c l (l.length - 1)=V9_ c l c:=by
 unfold stepU;rw [show l.length - 1+1=l.length by omega,List.take_length]
theorem Yv9 (c l:List Int) (j:Nat):(stepU c l j).length=c.length:=I8_ _ _ _
theorem Vv9 {c l:List Int} {j:Nat} (g:j+1<l.length) (hd:∀ i k,i<k→k<l.length→(l.getD i 0).toNat≠(l.getD k 0).toNat) (hb:∀ i,i+1<l.length→(l.getD i 0).toNat<c.length):(stepU c l j).getD (l.getD (j+1) 0).toNat 0=c.getD (l.getD (j+1) 0).toNat 0:=by
 have e:∀ i,i<j+1→(l.take (j+1)).getD i 0=l.getD i 0:=fun i d=>by
  rw [List.getD_eq_getElem?_getD,List.getD_eq_getElem?_getD,List.getElem?_take_of_lt d]
 have hl:(l.take (j+1)).length=j+1:=z42_;have h:=I9_ c (l.take (j+1)) c (fun i k f m=>by rw [e i q40_,e k q40_];exact hd i k f q40_) (fun i d=>by rw [e i q40_];exact hb i q40_) (l.getD (j+1) 0).toNat;exact h.2 fun i d=>by rw [e i q40_];exact hd i (j+1) q40_ g
theorem Vj0 {w:World} {base g c n:Nat} {zs:List Int} (h:w.ownsRow base 3 1 (.slice (some ⟨g,0,none⟩) n c) n (ints zs)) (i:Nat) (z:Int):(w.setCell ⟨g,i,none⟩ (.int .i64 z)).ownsRow base 3 1 (.slice (some ⟨g,0,none⟩) n c) n (ints (zs.set i z)):=q21_
theorem Zr4 {l:List Int} {i:Nat} (h:i<l.length):(ints l)[i]?=some (.int .i64 (l.getD i 0)):=by
 unfold ints;simp [List.getD,h]
theorem Xk6 (u:Option Addr) (D m g d B:Nat) (c l:List Int) (U:Value) (w:World) (xh:B≤g) (P:w.ownsRow B 3 1 (.slice (some ⟨g,0,none⟩) c.length d) c.length (ints c)) (hr:Row w w.heap.size U l) (hf:∀ k,U.ownBlock=some k→k≠g) (hl2:2≤l.length) (hl:l.length≤100) (xo:c.length≤64)
  (hd:∀ i k,i<k→k<l.length→(l.getD i 0).toNat≠(l.getD k 0).toNat) (x4:∀ i,i+1<l.length→0≤l.getD i 0∧l.getD i 0<(c.length:Int)) (x7:∀ i,i<l.length→0≤l.getD i 0∧l.getD i 0≤100) :
  Calls Tryz.prog 36 #[.agg #[.slice u m D,.slice (some ⟨g,0,none⟩) c.length d],U] w fun e w'=>e=.returned (.tuple #[])∧w'.ownsRow B 3 1 (.slice (some ⟨g,0,none⟩) c.length d) c.length (ints (V9_ c l c))∧Below B w w'∧∀ k,k<w.heap.size→k≠g→w'.heap[k]?=w.heap[k]?:=by
 obtain ⟨r,hW0⟩:∃ r,r=w.alloc (.cells #[.slice u m D,.slice (some ⟨g,0,none⟩) c.length d] 47):=⟨_,rfl⟩;have xb:=hid hW0;have xs:g<w.heap.size:=(P.lt g rfl).2;have xi:B≤w.heap.size:=q40_;have G:Below w.heap.size w r:=q42_;have xc:Hid (Below B w r):=hid (by rw [hW0];exact (Below.refl B w).alloc xi _);have xe:Hid (Blk r w.heap.size 47 #[.slice u m D,.slice (some ⟨g,0,none⟩) c.length d]):=hid x44_;have HO:=hid (M1_ P G);obtain ⟨A,cw,rfl,x2,J⟩:=hr;obtain ⟨C,hA,_,_⟩:=J 0 q40_;subst hA;obtain ⟨n,O⟩:∃ n,l.length=n+1:=⟨l.length - 1,q40_⟩;have HN:=hid O;have R:C.block≠g:=hf C.block rfl;have H:Hid (∀ j,j<n+1→C.block<w.heap.size∧w.cell? (C.add j)=some (.int .i64 (l.getD j 0))):=hid fun j s=>by
  obtain ⟨ad,h1,h2,h3⟩:=J j q40_;cases h1;exact ⟨h2,h3⟩
 have xq:¬ cw=1:=q40_;have xr:(1:Int)≤(cw:Int):=q40_;have xv:1≤n:=q40_;have Hd:=hid hd;have Z:=hid x4;have xf:=hid x7;have xn:=hid x2;obtain ⟨b,o,xm⟩:=C;obtain rfl:xm=none:=by simpa [Addr.add] using World.cell?_spot (H.out 0 q40_).2
 have x1:b<w.heap.size:=(H.out 0 q40_).1;have R:b≠g:=R;have HW:Hid (∀ j:Nat,j<n+1→r.cell? ⟨b,o+j,none⟩=some (.int .i64 (l.getD j 0))):=hid fun j s=>by
  have h:=(H.out j s).2;rw [show (⟨b,o,none⟩:Addr).add j=⟨b,o+j,none⟩ by simp [Addr.add]] at h;exact (G.cell (p:=⟨b,o+j,none⟩) x1).trans h
 have xk:w.heap.size≠g:=q40_;have xw:(n:Int)≤100:=q40_;rw [O];have xa:Hid (∀ q,q<w.heap.size→q≠g→r.heap[q]?=w.heap[q]?):=hid fun q Q _=>G.block q Q;clear hW0 G P hf hd x4 x7 J x2 O H;have xp:(c.length:Int)≤64:=q40_
 go_enter Tryz.func36,Tryz.ntmps36
 go_wp2;rw [← xb.out]
 go_loopw [4,5,9] (fun _ _ V wr=>∃ k:Nat,V=.int .i64 k∧k≤n∧wr.ownsRow B 3 1 (.slice (some ⟨g,0,none⟩) c.length d) c.length (ints (stepU c l k))∧Blk wr w.heap.size 47 #[.slice u m D,.slice (some ⟨g,0,none⟩) c.length d]∧(∀ j:Nat,j<n+1→wr.cell? ⟨b,o+j,none⟩=some (.int .i64 (l.getD j 0)))∧Below B w wr∧∀ q,q<w.heap.size→q≠g→wr.heap[q]?=w.heap[q]?) (fun _ _ V _=>n - (intOf V).toNat)
 case atStart =>
  refine ⟨0,rfl,Nat.zero_le _,?_,xe.out,HW.out,xc.out,xa.out⟩;obtain ⟨x,l',rfl⟩:∃ x l',l=x :: l':=q29_;rw [Zk9];exact HO.out
 case round =>
  obtain ⟨k,rfl,J,x8,x0,x3,hb,x5⟩:=hrel;have W:=hid x5;clear x5;have E:=hid x8;have M:=hid x0;have N:=hid x3;have L:=hid hb;clear x8 x0 x3 hb;by_cases xt:k<n
  ·have xu:(k:Int)<(n:Int):=by omega
   have g1:=N.out (k+1) q40_;have g0:=N.out k q40_;rw [show o+(k+1)=o+1+k by omega] at g1;have kA:=M.out.cell 1;obtain ⟨h1,h2⟩:=Z.out k k43_;obtain ⟨h3,h4⟩:=xf.out (k+1) k43_;obtain ⟨x,hx⟩:∃ x:Nat,l.getD k 0=(x:Int):=⟨(l.getD k 0).toNat,q40_⟩;obtain ⟨y,hy⟩:∃ y:Nat,l.getD (k+1) 0=(y:Int):=⟨(l.getD (k+1) 0).toNat,q40_⟩;have xy:x<c.length:=q40_;have xx:(x:Int)<(c.length:Int):=q40_;have nx:Hid (stepU c l (k+1)=(stepU c l k).set x (nextU c (y:Int))):=hid (by
    rw [Zl0 c l k43_,hx,hy];rfl)
   have sl:=Yv9 c l k;have at_:y<c.length→(stepU c l k).getD y 0=c.getD y 0:=fun _=>by
    have:=Vv9 (c:=c) (l:=l) (j:=k) k43_ Hd.out (fun i hi=>by have:=Z.out i hi;omega);rw [hy] at this;exact this
   rw [hx] at g0;rw [hy] at g1;have xz:(y:Int)≤100:=q40_;have I:Below wr.heap.size wr wr.drew:=(Below.refl _ wr).drew;have F:=hid (M1_ E.out I);have X:=hid (M.out.below I M.out.lt);have Y:Hid (∀ j:Nat,j<n+1→wr.drew.cell? ⟨b,o+j,none⟩=some (.int .i64 (l.getD j 0))):=hid fun j s=>(I.cell (p:=⟨b,o+j,none⟩) (Nat.lt_of_lt_of_le x1 L.out.size)).trans (N.out j s);have xd:=hid L.out.drew;have xg:=Y.out k q40_;rw [hx] at xg;have y0:=X.out.cell 1;have fG:=F.out.frozenAt x;clear I;have HPut:Hid (∀ z:Int,nextU c (y:Int)=z→(wr.drew.setCell ⟨g,x,none⟩ (.int .i64 z)).ownsRow B 3 1 (.slice (some ⟨g,0,none⟩) c.length d) c.length (ints (stepU c l (k+1)))∧Blk (wr.drew.setCell ⟨g,x,none⟩ (.int .i64 z)) w.heap.size 47 #[.slice u m D,.slice (some ⟨g,0,none⟩) c.length d]∧(∀ j:Nat,j<n+1→(wr.drew.setCell ⟨g,x,none⟩ (.int .i64 z)).cell? ⟨b,o+j,none⟩=some (.int .i64 (l.getD j 0)))∧Below B w (wr.drew.setCell ⟨g,x,none⟩ (.int .i64 z))∧∀ q,q<w.heap.size→q≠g→(wr.drew.setCell ⟨g,x,none⟩ (.int .i64 z)).heap[q]?=w.heap[q]?):=hid fun z K=>by
    refine ⟨?_,X.out.far (p:=⟨g,x,none⟩) xk _,fun j s=>?_,?_,fun q Q x6=>?_⟩
    ·rw [nx.out,K]
     exact Vj0 F.out x z
    ·rw [World.cell?_of_block (w:=wr.drew) (Below.heap_setCell _ _ _ _ R)]
     exact Y.out j s
    ·exact xd.out.setCell (p:=⟨g,x,none⟩) xh _
    ·rw [Below.heap_setCell _ _ _ _ x6]
     exact W.out q Q x6
   have eX:=Zr4 (l:=stepU c l k) (i:=x) q40_;have qx:=(F.out.cellAt x q40_).trans eX;have qY:=fun S:y<c.length=>((E.out.cellAt y q40_).trans (Zr4 (l:=stepU c l k) (i:=y) q40_)).trans (by rw [at_ S]);have qYd:=fun S:y<c.length=>((F.out.cellAt y q40_).trans (Zr4 (l:=stepU c l k) (i:=y) q40_)).trans (by rw [at_ S]);by_cases x9:y<c.length
   ·have T:(y:Int)<(c.length:Int):=by omega
    have qy:=qY x9;have y1:=qYd x9;have K:nextU c (y:Int)=c.getD y 0:=by unfold nextU;rw [if_pos T];rfl
    generalize c.getD y 0=z at *
    have Hz:=hid K;clear K;exact j8_
   ·have T:¬ (y:Int)<(c.length:Int):=by omega
    have Hz:Hid (nextU c (y:Int)=(y:Int) - (c.length:Int)):=hid (by unfold nextU;rw [if_neg T]);have w1:IntKind.i64.wrap ((y:Int) - (c.length:Int))=(y:Int) - (c.length:Int):=k40_;exact j8_
  ·have xl:k=n:=by omega
   subst xl;have xj:Hid (stepU c l k=V9_ c l c):=hid (by
    have:=Yv8 c l k43_
    rwa [HN.out,Nat.add_sub_cancel] at this)
   rw [xj.out] at E;go_wp2;refine bodyPost_end (v:=.tuple #[]) (by simp [results,Tryz.results36,go_sem]) rfl ?_;exact ⟨rfl,E.out,L.out,W.out⟩
open Go Go.RowKit
theorem P7_ (_E:Nat→Addr) (ms:List Mat) (v:Value) (w:World) (hl:MatL w w.heap.size v ms) (hs:∀ m∈ms,Sml m) (x6:ms.length≤1000) :
  Calls Tryz.prog 20 #[v] w (Says w (sevB ms)):=by
 have s:=hid hl;have O:=hid hs;obtain ⟨M,Y,rfl,_⟩:=id hl;have x5:(ms.length:Int)≤1000:=q40_;clear hl hs
 go_enter Tryz.func20,Tryz.ntmps20
 go_wp2_with fail
 go_loopw [3] (fun r wr=>∃ k:Nat,r=.int .i64 k∧k≤ms.length∧Below w.heap.size w wr∧∀ j,j<k→oddM ms (ms.getD j default)=false) (fun r _=>ms.length - (intOf r).toNat)
 case atStart=>exact ⟨0,rfl,Nat.zero_le _,Below.refl _ _,fun j d=>absurd d (Nat.not_lt_zero _)⟩
 case round =>
  obtain ⟨k,rfl,hk,c,I⟩:=hrel;have HBr:=hid c;have u:=hid I;clear I;by_cases hlt:k<ms.length
  ·have x4:(k:Int)<(ms.length:Int):=by omega
   have Z:(0:Int)<(ms.length:Int):=q40_;have x0:0<ms.length:=q40_;obtain ⟨ad,X,L,K,B,H,E⟩:=MatL.one s.out hlt;obtain ⟨P,V,x8,x7,C,_,F⟩:=MatL.one s.out (show 0<ms.length by omega);obtain rfl:M=some ad:=(Value.slice.inj B).1;obtain rfl:ad=P:=Option.some.inj (Value.slice.inj C).1;have G:ad.add (0 * 6)=ad:=x43_;have p:ms.getD k default∈ms:=q43_;have J:=O.out _ p;have hC:Hid (∀ W,Below wr.heap.size wr W→Calls Tryz.prog 45 #[.agg #[.int .i64 (ms.getD k default).t,.int .i64 (ms.getD k default).n,.int .i64 (ms.getD k default).a,.int .i64 (ms.getD k default).b,L,K]] W fun e w'=>e=.returned (.int .i64 (chk (ms.getD k default)))∧Below wr.heap.size wr w'):=hid fun W hW=>by
    refine (A1_ (ms.getD k default) _ W (H.up (Z0_ c (le_refl _) hW)) J).mono ?_;rintro e w' ⟨rfl,hb⟩;exact ⟨rfl,Z0_ hW (le_refl _) hb⟩
   have hK:Hid (∀ W,Below wr.heap.size wr W→(W.cell? (ad.add (k * 6))=some (.int .i64 (ms.getD k default).t)∧W.cell? ⟨(ad.add (k * 6)).block,(ad.add (k * 6)).off+1,none⟩=some (.int .i64 (ms.getD k default).n)∧W.cell? ⟨(ad.add (k * 6)).block,(ad.add (k * 6)).off+2,none⟩=some (.int .i64 (ms.getD k default).a)∧W.cell? ⟨(ad.add (k * 6)).block,(ad.add (k * 6)).off+3,none⟩=some (.int .i64 (ms.getD k default).b)∧W.cell? ⟨(ad.add (k * 6)).block,(ad.add (k * 6)).off+4,none⟩=some L∧W.cell? ⟨(ad.add (k * 6)).block,(ad.add (k * 6)).off+5,none⟩=some K)∧W.cell? ⟨ad.block,ad.off+1,none⟩=some (.int .i64 (ms.getD 0 default).n)):=hid fun W hW=>by
    have g:=E W (Z0_ c (le_refl _) hW);have y:=(F W (Z0_ c (le_refl _) hW)).2.1;rw [G] at y;exact ⟨g,y⟩
   have hO:Hid (oddM ms (ms.getD k default)=(!((ms.getD k default).n==(ms.getD 0 default).n) || !(chk (ms.getD k default)==0))):=hid rfl;have hbad:Hid (oddM ms (ms.getD k default)=true→sevB ms=false):=hid fun h=>by
    unfold sevB;rw [show ms.any (oddM ms)=true from List.any_eq_true.2 ⟨_,p,h⟩];simp
   have hgood:Hid (oddM ms (ms.getD k default)=false→∀ j,j<k+1→oddM ms (ms.getD j default)=false):=hid fun h j d=>by
    by_cases e:j=k
    ·rw [e];exact h
    ·exact u.out j q40_
   generalize oddM ms (ms.getD k default)=od at *
   generalize chk (ms.getD k default)=ch at *
   generalize (ms.getD k default).n=n1 at *
   generalize (ms.getD k default).t=t1 at *
   generalize (ms.getD k default).a=a1 at *
   generalize (ms.getD k default).b=b1 at *
   generalize (ms.getD 0 default).n=n0 at *
   clear B C H E F G p J c;by_cases o:ch=0
   ·subst o
    by_cases q:n1=n0
    ·subst q
     have hod:od=false:=by rw [hO.out];simp
     have N:=hid (hgood.out hod);clear hO hod hbad hgood;go_wp2;refine Z6_ wr.heap.size wr x40_ x40_ (Below.refl _ _) ?_
     iterate 18 (first
      | go_big_quiet_skip
      | go_big_quiet_step (with_reducible exact hC.out _)
      | (go_big_quiet_want;apply Exists.intro;refine ⟨fun W hW=>?_,?_⟩;(· obtain ⟨⟨k0,k1,k2,k3,k4,k5⟩,k6⟩:=hK.out W hW;go_simp;first | exact rfl | exact ⟨rfl,rfl⟩);go_simp;go_big_quiet_on))
     refine wpQuiet_nil ?_;intro w7 hB7;have HBn:=hid (Z0_ HBr.out (le_refl _) hB7);clear hB7 hC hK;go_wp2
     go_roundw
     case rel=>exact ⟨k+1,x41_,q40_,HBn.out,N.out⟩
     exact mz_
    ·have T:(n1 != n0)=true:=by simpa using q
     have hod:od=true:=by rw [hO.out];simp [q]
     exact j3_
   ·have T:(ch != 0)=true:=by simpa using o
    have hod:od=true:=by rw [hO.out];simp [o]
    exact j3_
  ·have S:k=ms.length:=by omega
   subst S;have D:ms.any (oddM ms)=false:=List.any_eq_false.2 fun x U=>by
    obtain ⟨j,d,rfl⟩:=List.mem_iff_getElem.1 U;have:=u.out j d;rw [show ms.getD j default=ms[j] by simp [List.getD,d]] at this;rw [this];simp
   have hsv:sevB ms=(decide (1≤ms.length) && decide (ms.length≤8)):=by unfold sevB;rw [D];simp
   clear D c;by_cases g:1≤ms.length
   ·have Q:(1:Int)≤(ms.length:Int):=by omega
    by_cases z:ms.length≤8
    ·have R:(ms.length:Int)≤8:=by omega
     have Hr:=hid (show sevB ms=true by rw [hsv,decide_eq_true g,decide_eq_true z];rfl);exact y17_
    ·have R:¬ (ms.length:Int)≤8:=by omega
     have Hr:=hid (show sevB ms=false by rw [hsv,decide_eq_false z];simp);exact y17_
   ·have Q:¬ (1:Int)≤(ms.length:Int):=by omega
    have Hr:=hid (show sevB ms=false by rw [hsv,decide_eq_false g];rfl);exact y17_
end Go.Proofs.YtheeajnkiniopaaGreatDoor.Wp
