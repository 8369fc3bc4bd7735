/- Whether these are several matroids: union's own answer, walked (written by gen_usev.py). -/
import Derived.Test.YtheeajnkiniopaaGreatDoorUTurn
import Derived.Test.YtheeajnkiniopaaGreatDoorZE
import Derived.Test.YtheeajnkiniopaaGreatDoorQWalkC
import Derived.Test.YtheeajnkiniopaaGreatDoorZT
import Derived.Test.YtheeajnkiniopaaGreatDoorX0A
import Derived.Test.YtheeajnkiniopaaGreatDoorX0B
set_option maxHeartbeats 16000000
set_option maxRecDepth 100000
open Go.Lib (hid)
open Nat (le_refl)
namespace Go.Proofs.YtheeajnkiniopaaGreatDoor.Wp
private theorem y3_ {P:Prop} (h:P:=by
 have Hb:=hid (hbad.out hod)
 clear hO hod hbad hgood
 rw [Hb.out]
 go_wp2
 refine Z6_ wr.heap.size wr (by kernel_rfl) (by kernel_rfl) (Below.refl _ _) ?_
 iterate 18 (first
  | go_big_quiet_skip
  | go_big_quiet_step (with_reducible exact hC.out _)
  | (go_big_quiet_want;apply Exists.intro;refine ⟨fun W hW=>?_,?_⟩;(· obtain ⟨⟨k0,k1,k2,k3,k4,k5⟩,k6⟩:=hK.out W hW;go_simp;first | exact rfl | exact ⟨rfl,rfl⟩);go_simp;go_big_quiet_on))
 refine wpQuiet_nil ?_
 intro w7 hB7
 have HBn:=hid (Z0_ HBr.out (le_refl _) hB7)
 clear hB7 hC hK
 go_wp2
 go_ret
 exact ⟨rfl,HBn.out⟩):P:=h
open Go Go.RowKit
def oddM (ms:List Mat) (m:Mat):Bool:=!(m.n==(ms.getD 0 default).n) || !(chk m==0)
def sevB (ms:List Mat):Bool:=decide (1≤ms.length) && (decide (ms.length≤8) && !(ms.any (oddM ms)))
theorem sev_iff {ms:List Mat}:sevB ms=true↔Several ms (nN (ms.getD 0 default))∧∀ k,k<ms.length→(ms.getD k default).n=(ms.getD 0 default).n:=by
 unfold sevB;rw [Bool.and_eq_true,Bool.and_eq_true,decide_eq_true_iff,decide_eq_true_iff,Bool.not_eq_true',List.any_eq_false];have g:(∀ x∈ms,¬ oddM ms x=true)↔∀ k,k<ms.length→chk (ms.getD k default)=0∧(ms.getD k default).n=(ms.getD 0 default).n:=by
  constructor
  ·intro h k c
   have:=h _ (show ms.getD k default∈ms by rw [List.getD_eq_getElem?_getD,List.getElem?_eq_getElem c];exact List.getElem_mem c);unfold oddM at this;simp only [Bool.or_eq_true,Bool.not_eq_true',not_or,beq_eq_false_iff_ne,ne_eq,Decidable.not_not] at this;exact ⟨this.2,this.1⟩
  ·intro h x f
   obtain ⟨k,c,rfl⟩:=List.mem_iff_getElem.1 f;have:=h k c;rw [show ms.getD k default=ms[k] by simp [List.getD,c]] at this;unfold oddM;simp only [Bool.or_eq_true,Bool.not_eq_true',not_or,beq_eq_false_iff_ne,ne_eq,Decidable.not_not];exact ⟨this.2,this.1⟩
 rw [g];constructor
 ·rintro ⟨d,e,h3⟩
  exact ⟨⟨⟨x37_,e⟩,fun k c=>⟨(h3 k c).1,by unfold nN;rw [(h3 k c).2]⟩⟩,fun k c=>(h3 k c).2⟩
 ·rintro ⟨⟨d,e⟩,h3⟩
  exact ⟨d.1,d.2,fun k c=>⟨(e k c).1,h3 k c⟩⟩
def Yo5 (w:World) (g:Nat) (lb:Array Value) (P:Mat→Bool) (ms:List Mat):Prop :=
 ∀ (u:Value) (m:Mat) (W:World),m∈ms→Below w.heap.size w W→MatV W W.heap.size u m→Calls Tryz.prog g (#[u] ++ lb) W fun e W'=>e=.returned (.bool (P m))∧Below W.heap.size W W'
theorem Xx2 (g:Nat) (I:Array Value) (P:Mat→Bool) (v:Value) (ms:List Mat) (w:World) (L:∀ args w,(callFunc g args).run Tryz.prog w=.ok (.enter g args) w) (q:MatL w w.heap.size v ms) (hl:ms.length≤1048576) (G:Yo5 w g I P ms) :
  Calls Tryz.prog 84 #[v,.func (.func g) #[] I] w fun e w'=>∃ r,e=.returned (.int .i64 r)∧Found P default ms r∧Below w.heap.size w w':=by
 have J:=hid q;obtain ⟨A,c,rfl,_⟩:=id q;have y:=hid G;have N:(ms.length:Int)≤1048576:=x37_;clear q G
 go_enter Tryz.func84,Tryz.ntmps84
 go_wp2
 go_loopw [8] (fun u wr=>∃ k:Nat,u=.int .i64 k∧k≤ms.length∧Below w.heap.size w wr∧∀ j,j<k→P (ms.getD j default)=false) (fun u _=>ms.length - (intOf u).toNat)
 case atStart=>exact ⟨0,rfl,Nat.zero_le _,Below.refl _ _,fun j D=>absurd D (Nat.not_lt_zero _)⟩
 case round =>
  obtain ⟨k,rfl,M,hb,H⟩:=hrel;have Hb:=hid hb;have Hz:=hid H;clear H;by_cases hlt:k<ms.length
  ·obtain ⟨K,d,R,Q,B,F,C⟩:=J.out.one hlt
   obtain rfl:A=some K:=(Value.slice.inj B).1;obtain ⟨q0,q1,q2,q3,q4,q5⟩:=C wr hb;have E:ms.getD k default∈ms:=z39_;have h:=hid (y.out _ (ms.getD k default) _ E Hb.out (F.up hb));have O:(k:Int)<(ms.length:Int):=x37_;obtain ⟨x,s⟩:∃ x,x=ms.getD k default:=⟨_,rfl⟩;rw [← s] at h q0 q1 q2 q3;have z:=hid s;clear s hb F C E B y;rcases hq:P x with _ | _
   ·rw [hq] at h
    have p:=hid hq;clear hq
    go_wp2_with fail
    refine (h.out).mono ?_;rintro e w' ⟨rfl,m⟩;have o:=hid (Hb.out.trans (m.mono Hb.out.size));clear m q0 q1 q2 q3 q4 q5;go_wp2
    go_roundw
    case rel =>
     refine ⟨k+1,y38_,x37_,o.out,fun j D=>?_⟩;by_cases e:j=k
     ·rw [e,← z.out]
      exact p.out
     ·exact Hz.out j x37_
    case measure=>simp [intOf];omega
   ·rw [hq] at h
    have p:=hid hq;clear hq
    go_wp2_with fail
    refine (h.out).mono ?_;rintro e w' ⟨rfl,m⟩;have o:=hid (Hb.out.trans (m.mono Hb.out.size));clear m q0 q1 q2 q3 q4 q5;go_wp2;go_ret;exact ⟨_,rfl,.inr ⟨k,hlt,rfl,by rw [← z.out];exact p.out,Hz.out⟩,o.out⟩
  ·have hke:k=ms.length:=by omega
   exact z15_
theorem Zr0 (g:Nat) (d:Array Value) (P:Mat→Bool) (v:Value) (ms:List Mat) (w:World) (j:∀ args w,(callFunc g args).run Tryz.prog w=.ok (.enter g args) w) (m:MatL w w.heap.size v ms) (hl:ms.length≤1048576) (o:Yo5 w g d P ms) :
  Calls Tryz.prog 59 #[v,.func (.func g) #[] d] w (Says w (ms.any P)):=by
 have q:=hid (Xx2 g d P v ms w j m hl o);obtain ⟨A,c,rfl,_⟩:=m;clear hl o j
 go_enter Tryz.func59,Tryz.ntmps59
 go_wp2_with fail
 refine q.out.mono ?_;rintro e s ⟨r,rfl,k,hb⟩;have h:=hid (Zc3 k);have p:=hid hb;clear k hb;go_wp2;go_ret;exact ⟨by first | rfl | (rw [h.out];rfl) | (rw [← h.out];rfl),p.out⟩
theorem Vo4 (E:Nat→Addr) (ms:List Mat) (j d:Nat) (g:Addr) (w:World) (K:Env E w) (h0:0<ms.length) (hs:∀ m∈ms,Sml m) (M:j<w.heap.size) (L:g.block<w.heap.size) (hc:w.cell? ⟨j,0,none⟩=some (.slice (some g) ms.length d)) (N:w.cell? ⟨g.block,g.off+1,none⟩=some (.int .i64 (ms.getD 0 default).n)) :
  Yo5 w 60 #[.pointer (some ⟨j,0,none⟩)] (oddM ms) ms:=by
 intro u m W T k B;obtain ⟨r,q,rfl,_,_⟩:=B.open;have I:=(k.cell (p:=⟨j,0,none⟩) M).trans hc;have J:=(k.cell (p:=⟨g.block,g.off+1,none⟩) L).trans N;have x0:(0:Int)<(ms.length:Int):=x37_;have D:=K.up k;have R:j<W.heap.size:=Nat.lt_of_lt_of_le M k.size;have Q:g.block<W.heap.size:=Nat.lt_of_lt_of_le L k.size;obtain ⟨c,s⟩:∃ c,c=W.alloc (.cells #[.int .i64 m.t,.int .i64 m.n,.int .i64 m.a,.int .i64 m.b,r,q] 37):=⟨_,rfl⟩;have F:=hid s;have v:Below W.heap.size W c:=by rw [s];exact (Below.refl _ W).alloc (le_refl _) _
 have G:Hid (Blk c W.heap.size 37 #[.int .i64 m.t,.int .i64 m.n,.int .i64 m.a,.int .i64 m.b,r,q]):=hid (by rw [s];exact Blk.new W _ _);have Hb0:=hid v;have O:Hid (∀ V,Below c.heap.size c V→Calls Tryz.prog 61 #[.agg #[.int .i64 m.t,.int .i64 m.n,.int .i64 m.a,.int .i64 m.b,r,q]] V fun e H=>e=.returned (.int .i64 (chk m))∧Below c.heap.size c H):=hid fun V hV=>by
  have o:=Z0_ v (le_refl _) hV;refine (C1_ E m _ V (B.up o) (hs m T) (D.up o)).mono ?_;rintro e H ⟨rfl,hb⟩;exact ⟨rfl,Z0_ hV (le_refl _) hb⟩
 have x:Hid (∀ V,Below c.heap.size c V→V.cell? ⟨W.heap.size,0,none⟩=some (.int .i64 m.t)∧V.cell? ⟨W.heap.size,1,none⟩=some (.int .i64 m.n)∧V.cell? ⟨W.heap.size,2,none⟩=some (.int .i64 m.a)∧V.cell? ⟨W.heap.size,3,none⟩=some (.int .i64 m.b)∧V.cell? ⟨W.heap.size,4,none⟩=some r∧V.cell? ⟨W.heap.size,5,none⟩=some q∧V.cell? ⟨j,0,none⟩=some (.slice (some g) ms.length d)∧V.cell? ⟨g.block,g.off+1,none⟩=some (.int .i64 (ms.getD 0 default).n)):=hid fun V hV=>by
  have h:=G.out.below hV G.out.lt;have o:=Z0_ v (le_refl _) hV;exact ⟨h.cell 0,h.cell 1,h.cell 2,h.cell 3,h.cell 4,h.cell 5,(o.cell (p:=⟨j,0,none⟩) R).trans I,(o.cell (p:=⟨g.block,g.off+1,none⟩) Q).trans J⟩
 obtain ⟨z,C⟩:∃ z,(ms.getD 0 default).n=z:=⟨_,rfl⟩;have P:=hid C;rw [C] at x;clear C I J s v hc N K D B k;show Calls Tryz.prog 60 #[.agg #[.int .i64 m.t,.int .i64 m.n,.int .i64 m.a,.int .i64 m.b,r,q],.pointer (some ⟨j,0,none⟩)] W _;unfold oddM;rw [P.out];by_cases y:m.n=z
 ·subst y
  rw [show (m.n==m.n)=true by simp]
  go_enter Tryz.func60,Tryz.ntmps60
  go_wp2;rw [← F.out];refine Z6_ c.heap.size c y37_ y37_ (Below.refl _ _) ?_
  iterate 13 (first
   | go_big_quiet_step (with_reducible exact O.out _)
   | (go_big_quiet_want;apply Exists.intro;refine ⟨fun V hV=>?_,?_⟩;(· obtain ⟨U,X,Y,Z,k4,k5,k6,k7⟩:=x.out V hV;go_simp;first | exact rfl | exact ⟨rfl,rfl⟩);go_simp;go_big_quiet_on))
  exact y15_
 ·have S:(m.n==z)=false:=by simpa using y
  have x1:(m.n != z)=true:=by simpa using y
  rw [S]
  go_enter Tryz.func60,Tryz.ntmps60
  go_wp2;rw [← F.out];refine Z6_ c.heap.size c y37_ y37_ (Below.refl _ _) ?_
  iterate 13 (first
   | go_big_quiet_skip
   | (go_big_quiet_want;apply Exists.intro;refine ⟨fun V hV=>?_,?_⟩;(· obtain ⟨U,X,Y,Z,k4,k5,k6,k7⟩:=x.out V hV;go_simp;first | exact rfl | exact ⟨rfl,rfl⟩);go_simp;go_big_quiet_on))
  exact y15_
theorem T7_ (E:Nat→Addr) (ms:List Mat) (v:Value) (w:World) (hl:MatL w w.heap.size v ms) (hs:∀ m∈ms,Sml m) (C:Env E w):Calls Tryz.prog 33 #[v] w (Says w (sevB ms)):=by
 have o:=hid hl;have M:=hid hs;have J:=hid C;obtain ⟨A,d,rfl,x,_⟩:=id hl;have T:(ms.length:Int)≤9223372036854775807:=by have h:=x.1;have j:=x.2.1;unfold maxLen at j;omega
 obtain ⟨c,hW0⟩:∃ c,c=w.alloc (.cells #[.slice A ms.length d] 22):=⟨_,rfl⟩;have HW0:=hid hW0;have D:Below w.heap.size w c:=q39_;have q:Hid (Blk c w.heap.size 22 #[.slice A ms.length d]):=hid y41_;have Hb0:=hid D;unfold sevB;clear hl hs C x hW0 D;by_cases h:1≤ms.length
 ·by_cases j:ms.length≤8
  ·rw [decide_eq_true h,decide_eq_true j,Bool.true_and,Bool.true_and]
   have r:¬ (ms.length:Int)<1:=x37_;have y:¬ (8:Int)<(ms.length:Int):=x37_;have R:decide ((ms.length:Int)<1)=false:=decide_eq_false r;have S:decide ((8:Int)<(ms.length:Int))=false:=decide_eq_false y;obtain ⟨g,P,V,U,z,_,F⟩:=o.out.one (k:=0) x37_;obtain rfl:A=some g:=(Value.slice.inj z).1;obtain ⟨I,Q,H,_,G⟩:=id o.out;obtain ⟨N,_,B,s,_,_⟩:=G 0 x37_;obtain rfl:I=some g:=(Value.slice.inj H).1.symm;obtain rfl:g=N:=Option.some.inj B;have u:=(F w (Below.refl _ _)).2.1;rw [Nat.zero_mul,add_zero] at u;have L:Hid (Yo5 c 60 #[.pointer (some ⟨w.heap.size,0,none⟩)] (oddM ms) ms):=hid (Vo4 E ms w.heap.size d g c (J.out.up Hb0.out) x37_ M.out q.out.lt (Nat.lt_of_lt_of_le s Hb0.out.size) (q.out.cell 0) ((Hb0.out.cell (p:=⟨g.block,g.off+1,none⟩) s).trans u));have K:=hid (o.out.up Hb0.out);have O:ms.length≤1048576:=x37_;have k0:=q.out.cell 0;clear F G H z B u s
   go_enter Tryz.func33,Tryz.ntmps33
   go_wp2_with fail
   rw [← HW0.out];refine (Zr0 60 _ (oddM ms) _ ms _ (enters_of Tryz.func60 y37_ rfl) K.out O L.out).mono ?_;exact q36_
  ·rw [decide_eq_true h,decide_eq_false j]
   have r:¬ (ms.length:Int)<1:=x37_;have y:(8:Int)<(ms.length:Int):=x37_;exact y6_
 ·rw [decide_eq_false h]
  have r:(ms.length:Int)<1:=x37_;exact y6_
open Go Go.RowKit
noncomputable def J8_ (ms:List Mat) (u:List Int):Nat→Int
 | 0=>0
 | k+1=>J8_ ms u k+rankT (ms.getD k default) u
noncomputable def B4_ (ms:List Mat) (u:List Int):Int:=if (sevB ms && mayI (ms.getD 0 default) u)=true then (ms.getD 0 default).n - (u.length:Int)+J8_ ms u ms.length else -1
theorem Yv1 {ms:List Mat} {u:List Int} (h:∀ k,k<ms.length→-1≤rankT (ms.getD k default) u∧rankT (ms.getD k default) u≤1000):∀ k:Nat,k≤ms.length→-(k:Int)≤J8_ ms u k∧J8_ ms u k≤1000 * (k:Int)
 | 0,_=>⟨by show _≤(0:Int);omega,by show (0:Int)≤_;omega⟩
 | k+1,hk=>by
  have c:=Yv1 h k x37_;have d:=h k x37_;show _≤J8_ ms u k+rankT (ms.getD k default) u∧J8_ ms u k+rankT (ms.getD k default) u≤_;omega
theorem G3_ (E:Nat→Addr) (ms:List Mat) (v sv:Value) (u:List Int) (w:World) (hl:MatL w w.heap.size v ms) (hs:∀ m∈ms,Sml m) (H:Row w w.heap.size sv u) (xv:u.length≤1000) (C:Env E w) (R:∀ k,k<ms.length→-1≤rankT (ms.getD k default) u∧rankT (ms.getD k default) u≤1000) :
  Calls Tryz.prog 16 #[v,sv] w (Tells w (B4_ ms u)):=by
 have y:=hid (T7_ E ms v w hl hs C);have HL:=hid hl;have Hs:=hid hs;have J:=hid C;have K:=hid H;have Y:=hid R;obtain ⟨Al,Z,rfl,_⟩:=id hl;obtain ⟨As,cs,rfl,_⟩:=id H;have xw:(u.length:Int)≤1000:=x37_;rcases hsv:sevB ms with _ | _
 ·rw [hsv] at y
  rw [show B4_ ms u=-1 by unfold B4_;rw [hsv];rfl];clear hl hs H C R hsv
  go_enter Tryz.func16,Tryz.ntmps16
  go_wp2_with fail
  refine y.out.mono ?_;rintro e I ⟨rfl,hb⟩;have c:=hid hb;clear hb
  go_wp2_with fail
  go_ret;exact ⟨rfl,c.out⟩
 ·rw [hsv] at y
  have D:=(sev_iff.1 hsv).1;obtain ⟨G,xt⟩:=D.many;obtain ⟨ad,d,lv,iv,g,j,p⟩:=MatL.one hl G;obtain ⟨rfl,rfl⟩:Al=some ad∧Z=d:=⟨(Value.slice.inj g).1,(Value.slice.inj g).2.2⟩;have N:=hid j;have L:=hid p;have xs:(0:Int)<(ms.length:Int):=x37_;have xu:(ms.length:Int)≤8:=x37_;have r:ms.getD 0 default∈ms:=by rw [List.getD_eq_getElem?_getD,List.getElem?_eq_getElem G];exact List.getElem_mem G
  have M:=hid (hs _ r);have x6:ad.add (0 * 6)=ad:=q40_;have X:=hid x6;have xo:=(Z7_ (D.may 0 G).1);have xn:=D.n64;obtain ⟨m0,Q⟩:∃ m0,ms.getD 0 default=m0:=⟨_,rfl⟩;rw [Q] at M N L xo xn;have U:=hid Q;have V:=hid hsv;obtain ⟨z,S⟩:∃ z,B4_ ms u=z:=⟨_,rfl⟩;have W:=hid S;rw [S];clear S;clear hl hs H C R hsv D g j p r x6 Q
  go_enter Tryz.func16,Tryz.ntmps16
  go_wp2_with fail
  refine y.out.mono ?_;rintro e I ⟨rfl,hb⟩;have c:=hid hb;have q:=L.out I hb;rw [X.out] at q;obtain ⟨q0,q1,q2,q3,q4,q5⟩:=q;clear hb;rcases hmy:mayI m0 u with _ | _
  ·have o:=hid (Zq5 E m0 _ _ u I (N.out.up c.out) M.out (K.out.up c.out) x37_ (J.out.up c.out))
   have O:Hid (z=-1):=hid (by rw [← W.out];unfold B4_;rw [V.out,U.out,hmy];rfl);rw [hmy] at o;clear hmy
   go_wp2_with fail
   refine o.out.mono ?_;rintro e w2 ⟨rfl,h⟩;have x:=hid (Z0_ c.out (le_refl _) h);clear h
   go_wp2_with fail
   go_ret;exact ⟨by rw [O.out];rfl,x.out⟩
  ·have o:=hid (Zq5 E m0 _ _ u I (N.out.up c.out) M.out (K.out.up c.out) x37_ (J.out.up c.out))
   have O:Hid (z=m0.n - (u.length:Int)+J8_ ms u ms.length):=hid (by rw [← W.out];unfold B4_;rw [V.out,U.out,hmy];rfl);rw [hmy] at o;clear hmy
   go_wp2_with fail
   refine o.out.mono ?_;rintro e w2 ⟨rfl,h⟩;have x:=hid (Z0_ c.out (le_refl _) h);have p1:=(L.out w2 x.out).2.1;rw [X.out] at p1;have xx:IntKind.i64.wrap (m0.n - (u.length:Int))=m0.n - (u.length:Int):=q38_;clear h q0 q1 q2 q3 q4 q5
   go_wp2_with fail
   go_loopw [5,7,28] (fun v5 _ T wr=>∃ k:Nat,T=.int .i64 k∧k≤ms.length∧v5=.int .i64 (m0.n - (u.length:Int)+J8_ ms u k)∧Below w.heap.size w wr) (fun _ _ T _=>ms.length - (intOf T).toNat)
   case atStart=>exact ⟨0,rfl,Nat.zero_le _,by show _=Value.int .i64 (_+0);rw [Int.add_zero],x.out⟩
   case round =>
    obtain ⟨k,rfl,hk,rfl,F⟩:=hrel;have xc:=hid F;by_cases hlt:k<ms.length
    ·have xr:(k:Int)<(ms.length:Int):=by omega
     obtain ⟨xg,d2,xq,xp,g,j,p⟩:=MatL.one HL.out hlt;obtain ⟨rfl,rfl⟩:ad=xg∧Z=d2:=⟨Option.some.inj (Value.slice.inj g).1,(Value.slice.inj g).2.2⟩;obtain ⟨l3,i3,x5,xm,xk⟩:=j.open;obtain ⟨rfl,rfl⟩:xq=l3∧xp=i3:=by simpa using x5
     obtain ⟨xa,xi,rfl,_⟩:=xm;obtain ⟨x9,xh,rfl,_⟩:=xk;clear x5;have r:ms.getD k default∈ms:=z39_;have x8:=Hs.out _ r;have xj:=Yv1 Y.out k x37_;have h:=Y.out k hlt;have x7:J8_ ms u (k+1)=J8_ ms u k+rankT (ms.getD k default) u:=rfl;obtain ⟨q0,q1,q2,q3,q4,q5⟩:=p _ F;generalize ms.getD k default=mk at *
     obtain ⟨B,P⟩:∃ B,B=wr.alloc (.cells #[.int .i64 mk.t,.int .i64 mk.n,.int .i64 mk.a,.int .i64 mk.b,.slice xa mk.l.length xi,.slice x9 mk.i.length xh] 37):=⟨_,rfl⟩;have x4:Below wr.heap.size wr B:=by rw [P];exact (Below.refl _ wr).alloc (le_refl _) _
     have s:=hid (Z0_ F (le_refl _) x4);have xf:=hid (Yx4 E mk _ _ u B (j.up s.out) x8 (K.out.up s.out) x37_ (J.out.up s.out));have xe:=hid P;have xd:=hid x7;generalize rankT mk u=rk at *
     generalize J8_ ms u k=rt at *
     have xy:IntKind.i64.wrap (m0.n - (u.length:Int)+rt+rk)=m0.n - (u.length:Int)+rt+rk:=q38_;clear g j p r x8 xj h x7 P x4 F
     go_wp2_with fail
     rw [← xe.out];refine xf.out.mono ?_;rintro e w9 ⟨rfl,x0⟩;have xb:=hid (Z0_ s.out (le_refl _) x0);clear x0
     go_wp2_with fail
     go_roundw
     case rel=>exact ⟨k+1,y38_,x37_,by rw [xd.out];congr 1;omega,xb.out⟩
     exact mz_
    ·have xl:k=ms.length:=by omega
     subst xl
     go_wp2_with fail
     go_ret;exact ⟨by rw [O.out];rfl,xc.out⟩
open Go Go.RowKit
theorem K5_ (_E:Nat→Addr) (ms:List Mat) (v:Value) (w:World) (hl:MatL w w.heap.size v ms) (hs:∀ m∈ms,Sml m) (x6:ms.length≤1000) :
  Calls Tryz.prog 20 #[v] w (Says w (sevB ms)):=by
 have s:=hid hl;have O:=hid hs;obtain ⟨M,Y,rfl,_⟩:=id hl;have x5:(ms.length:Int)≤1000:=x37_;clear hl hs
 go_enter Tryz.func20,Tryz.ntmps20
 go_wp2_with fail
 go_loopw [3] (fun r wr=>∃ k:Nat,r=.int .i64 k∧k≤ms.length∧Below w.heap.size w wr∧∀ j,j<k→oddM ms (ms.getD j default)=false) (fun r _=>ms.length - (intOf r).toNat)
 case atStart=>exact ⟨0,rfl,Nat.zero_le _,Below.refl _ _,fun j d=>absurd d (Nat.not_lt_zero _)⟩
 case round =>
  obtain ⟨k,rfl,hk,c,I⟩:=hrel;have HBr:=hid c;have u:=hid I;clear I;by_cases hlt:k<ms.length
  ·have x4:(k:Int)<(ms.length:Int):=by omega
   have Z:(0:Int)<(ms.length:Int):=x37_;have x0:0<ms.length:=x37_;obtain ⟨ad,X,L,K,B,H,E⟩:=MatL.one s.out hlt;obtain ⟨P,V,x8,x7,C,_,F⟩:=MatL.one s.out (show 0<ms.length by omega);obtain rfl:M=some ad:=(Value.slice.inj B).1;obtain rfl:ad=P:=Option.some.inj (Value.slice.inj C).1;have G:ad.add (0 * 6)=ad:=q40_;have p:ms.getD k default∈ms:=z39_;have J:=O.out _ p;have hC:Hid (∀ W,Below wr.heap.size wr W→Calls Tryz.prog 45 #[.agg #[.int .i64 (ms.getD k default).t,.int .i64 (ms.getD k default).n,.int .i64 (ms.getD k default).a,.int .i64 (ms.getD k default).b,L,K]] W fun e w'=>e=.returned (.int .i64 (chk (ms.getD k default)))∧Below wr.heap.size wr w'):=hid fun W hW=>by
    refine (Q9_ (ms.getD k default) _ W (H.up (Z0_ c (le_refl _) hW)) J).mono ?_;rintro e w' ⟨rfl,hb⟩;exact ⟨rfl,Z0_ hW (le_refl _) hb⟩
   have hK:Hid (∀ W,Below wr.heap.size wr W→(W.cell? (ad.add (k * 6))=some (.int .i64 (ms.getD k default).t)∧W.cell? ⟨(ad.add (k * 6)).block,(ad.add (k * 6)).off+1,none⟩=some (.int .i64 (ms.getD k default).n)∧W.cell? ⟨(ad.add (k * 6)).block,(ad.add (k * 6)).off+2,none⟩=some (.int .i64 (ms.getD k default).a)∧W.cell? ⟨(ad.add (k * 6)).block,(ad.add (k * 6)).off+3,none⟩=some (.int .i64 (ms.getD k default).b)∧W.cell? ⟨(ad.add (k * 6)).block,(ad.add (k * 6)).off+4,none⟩=some L∧W.cell? ⟨(ad.add (k * 6)).block,(ad.add (k * 6)).off+5,none⟩=some K)∧W.cell? ⟨ad.block,ad.off+1,none⟩=some (.int .i64 (ms.getD 0 default).n)):=hid fun W hW=>by
    have g:=E W (Z0_ c (le_refl _) hW);have y:=(F W (Z0_ c (le_refl _) hW)).2.1;rw [G] at y;exact ⟨g,y⟩
   have hO:Hid (oddM ms (ms.getD k default)=(!((ms.getD k default).n==(ms.getD 0 default).n) || !(chk (ms.getD k default)==0))):=hid rfl;have hbad:Hid (oddM ms (ms.getD k default)=true→sevB ms=false):=hid fun h=>by
    unfold sevB;rw [show ms.any (oddM ms)=true from List.any_eq_true.2 ⟨_,p,h⟩];simp
   have hgood:Hid (oddM ms (ms.getD k default)=false→∀ j,j<k+1→oddM ms (ms.getD j default)=false):=hid fun h j d=>by
    by_cases e:j=k
    ·rw [e];exact h
    ·exact u.out j x37_
   generalize oddM ms (ms.getD k default)=od at *
   generalize chk (ms.getD k default)=ch at *
   generalize (ms.getD k default).n=n1 at *
   generalize (ms.getD k default).t=t1 at *
   generalize (ms.getD k default).a=a1 at *
   generalize (ms.getD k default).b=b1 at *
   generalize (ms.getD 0 default).n=n0 at *
   clear B C H E F G p J c;by_cases o:ch=0
   ·subst o
    by_cases q:n1=n0
    ·subst q
     have hod:od=false:=by rw [hO.out];simp
     have N:=hid (hgood.out hod);clear hO hod hbad hgood;go_wp2;refine Z6_ wr.heap.size wr y37_ y37_ (Below.refl _ _) ?_
     iterate 18 (first
      | go_big_quiet_skip
      | go_big_quiet_step (with_reducible exact hC.out _)
      | (go_big_quiet_want;apply Exists.intro;refine ⟨fun W hW=>?_,?_⟩;(· obtain ⟨⟨k0,k1,k2,k3,k4,k5⟩,k6⟩:=hK.out W hW;go_simp;first | exact rfl | exact ⟨rfl,rfl⟩);go_simp;go_big_quiet_on))
     refine wpQuiet_nil ?_;intro w7 hB7;have HBn:=hid (Z0_ HBr.out (le_refl _) hB7);clear hB7 hC hK;go_wp2
     go_roundw
     case rel=>exact ⟨k+1,y38_,x37_,HBn.out,N.out⟩
     exact mz_
    ·have T:(n1 != n0)=true:=by simpa using q
     have hod:od=true:=by rw [hO.out];simp [q]
     exact y3_
   ·have T:(ch != 0)=true:=by simpa using o
    have hod:od=true:=by rw [hO.out];simp [o]
    exact y3_
  ·have S:k=ms.length:=by omega
   subst S;have D:ms.any (oddM ms)=false:=List.any_eq_false.2 fun x U=>by
    obtain ⟨j,d,rfl⟩:=List.mem_iff_getElem.1 U;have:=u.out j d;rw [show ms.getD j default=ms[j] by simp [List.getD,d]] at this;rw [this];simp
   have hsv:sevB ms=(decide (1≤ms.length) && decide (ms.length≤8)):=by unfold sevB;rw [D];simp
   clear D c;by_cases g:1≤ms.length
   ·have Q:(1:Int)≤(ms.length:Int):=by omega
    by_cases z:ms.length≤8
    ·have R:(ms.length:Int)≤8:=by omega
     have Hr:=hid (show sevB ms=true by rw [hsv,decide_eq_true g,decide_eq_true z];rfl);exact j15_
    ·have R:¬ (ms.length:Int)≤8:=by omega
     have Hr:=hid (show sevB ms=false by rw [hsv,decide_eq_false z];simp);exact j15_
   ·have Q:¬ (1:Int)≤(ms.length:Int):=by omega
    have Hr:=hid (show sevB ms=false by rw [hsv,decide_eq_false g];rfl);exact j15_
end Go.Proofs.YtheeajnkiniopaaGreatDoor.Wp
