/- Regions of several orders by one walk; the program's together, takes, part, walked; and its fits, where what lies within counts together. -/
import Derived.Test.YtheeajnkiniopaaGreatDoorZO
import Derived.BigQuiet
import Derived.IntWalk
import Derived.Deep.QuietTactic
import Derived.Deep.RegionHeld3
import Derived.Test.YtheeajnkiniopaaGreatDoorX0A
import Derived.Test.YtheeajnkiniopaaGreatDoorX0B
set_option maxHeartbeats 8000000
set_option maxRecDepth 100000
open Go.Lib (hid)
namespace Go.Proofs.YtheeajnkiniopaaGreatDoor.Wp
open Go.RowKit
theorem Z5_ {P:Program} {id:Nat} {Q:Exit→Act→World→Prop} {a:Act} {w:World} {l:List Oper} (B:Nat) (w0:World) (f:P.follows .mixedOrders=true) (e:Region.lexB .any l.toArray=true) (c:Below B w0 w)
  (h:wpQuiet P l.toArray (Below B w0) (fun d=>∀ w',Below B w0 w'→Q .normal d w') l a):(Code.region id l.toArray true).wp P Q a w :=
 wp_region_quiet (C:=Below B w0) f e ⟨c.os,c.tape,c.output,c.size,c.block⟩ k34_
theorem X6_ {w0:World} {B:Nat} {p:Addr} {v:Value} (h:w0.cell? p=some v) (d:p.block<B):∀ W,Below B w0 W→W.cell? p=some v:=fun _ c=>(c.cell d).trans h
theorem Xz6 (x:Int):IntKind.i64.wrap x=wrap64 x:=IntWalk.i64_left x
theorem Yb4 {l:List Mat} {i:Nat} (h:i<l.length):tog (l.take (i+1))=IntKind.i64.wrap (tog (l.take i)+(l.getD i default).n):=by
 rw [Zv1 l i default h];unfold tog;rw [List.foldl_append];rfl
theorem Zn6 (v:Value) (i:List Mat) (w:World) (G:MatL w w.heap.size v i) (I:i.length≤1000):Calls Tryz.prog 174 #[v] w (Tells w (tog i)):=by
 obtain ⟨A,c,rfl,_,g⟩:=G;have y:=hid g;have L:(i.length:Int)≤1000:=k29_;clear g I
 go_enter Tryz.func174,Tryz.ntmps174
 go_wp2
 go_loopw [3,8] (fun vn h wr=>∃ k:Nat,h=.int .i64 k∧k≤i.length∧vn=.int .i64 (tog (i.take k))∧Below w.heap.size w wr) (fun _ h _=>i.length - (intOf h).toNat)
 case atStart=>exact ⟨0,rfl,Nat.zero_le _,rfl,Below.refl _ _⟩
 case round =>
  obtain ⟨k,rfl,g,rfl,e⟩:=hrel;have Hbr:=hid e;by_cases j:k<i.length
  ·have M:(k:Int)<(i.length:Int):=by omega
   obtain ⟨K,u,E,hab,p,o⟩:=y.out k j;subst E;have J:=p.below e x31_;obtain ⟨O,N,q,⟨x,D,rfl,_⟩,⟨r,C,rfl,_⟩⟩:=o.open;obtain ⟨V,W,X,Y,Z,x5,d,P,Q,R,S,T,U⟩:=J;rw [q] at d;injection d with d;injection d with d;injection d with e0 d;injection d with e1 d;injection d with e2 d;injection d with e3 d;injection d with e4 d;injection d with e5 d;subst e0 e1 e2 e3 e4 e5;have z:=hid (Yb4 j);have F:=hid ((Below.refl wr.heap.size wr).alloc (Nat.le_refl _) (.cells #[.int .i64 (i.getD k default).t,.int .i64 (i.getD k default).n,.int .i64 (i.getD k default).a,   .int .i64 (i.getD k default).b,.slice x (i.getD k default).l.length D,.slice r (i.getD k default).i.length C] 37));clear d q o p e;generalize i.getD k default=m at *
   generalize tog (i.take k)=s at *
   go_wp2
   go_roundw
   case rel=>exact ⟨k+1,y31_,k29_,by rw [z.out,Xz6],Hbr.out.trans (F.out.mono Hbr.out.size)⟩
   exact mz_
  ·have H:k=i.length:=by omega
   subst H;have B:Hid (i.take i.length=i):=List.take_length;rw [B.out];exact q14_
open Go.RowKit
theorem Yi8 (w:World) (c d:Obj):Below w.heap.size w ((w.alloc c).alloc d):=((Below.refl _ w).alloc (Nat.le_refl _) _).alloc y30_ _
theorem Xz7 (f:Form) (m:Mat) (v:Value) (w:World) (r:MatV w w.heap.size v m) (hs:Sml m):Calls Tryz.prog 148 #[formV f,v] w (Says w (Z6_ f m)):=by
 have C:=sml_l hs;have B:=U5_ hs;obtain ⟨H,G,rfl,⟨u,y,rfl,_⟩,⟨s,x,rfl,_⟩⟩:=r.open;clear r hs;obtain ⟨t,n,a,b,l,i⟩:=m;obtain ⟨q,o,g,c,d⟩:=f;simp only [Mat.t,Mat.n,Mat.a,Mat.b,Mat.l,Mat.i,formV] at *
 have F:(l.length:Int)≤1000:=k29_;have E:(i.length:Int)≤1000:=k29_;have Hb:=hid (Yi8 w (.cells #[.bool q,.bool o,.int .i64 g,.int .i64 c,.int .i64 d] 144) (.cells #[.int .i64 t,.int .i64 n,.int .i64 a,.int .i64 b,.slice u l.length y,.slice s i.length x] 37));clear C B;rcases q with _ | _
 ·by_cases ha:a=0
  ·subst ha
   rcases o with _ | _
   ·by_cases hb:b=0
    ·subst hb
     by_cases hf:g=-1
     ·subst hf
      by_cases hl:(l.length:Int)=n
      ·have h:((l.length:Int)==n)=true:=by simpa using hl
       by_cases h0:c≤(i.length:Int)
       ·by_cases h1:(i.length:Int)≤d
        ·skip
         have e:Z6_ ⟨false,false,-1,c,d⟩ (.mk t n 0 0 l i)=true:=k11_;exact q0_
        ·have k:d<(i.length:Int):=by omega
         have e:Z6_ ⟨false,false,-1,c,d⟩ (.mk t n 0 0 l i)=false:=y12_;exact q0_
       ·have j:(i.length:Int)<c:=by omega
        have e:Z6_ ⟨false,false,-1,c,d⟩ (.mk t n 0 0 l i)=false:=z12_;exact q0_
      ·have h:((l.length:Int)==n)=false:=by simpa using hl
       have e:Z6_ ⟨false,false,-1,c,d⟩ (.mk t n 0 0 l i)=false:=k13_;exact q0_
     ·have p:(g==-1)=false:=by simpa using hf
      by_cases hl:(l.length:Int)=g
      ·have h:((l.length:Int)==g)=true:=by simpa using hl
       by_cases h0:c≤(i.length:Int)
       ·by_cases h1:(i.length:Int)≤d
        ·skip
         have e:Z6_ ⟨false,false,g,c,d⟩ (.mk t n 0 0 l i)=true:=x12_;exact q0_
        ·have k:d<(i.length:Int):=by omega
         have e:Z6_ ⟨false,false,g,c,d⟩ (.mk t n 0 0 l i)=false:=z13_;exact q0_
       ·have j:(i.length:Int)<c:=by omega
        have e:Z6_ ⟨false,false,g,c,d⟩ (.mk t n 0 0 l i)=false:=j13_;exact q0_
      ·have h:((l.length:Int)==g)=false:=by simpa using hl
       have e:Z6_ ⟨false,false,g,c,d⟩ (.mk t n 0 0 l i)=false:=k14_;exact q0_
    ·have z:(b==0)=false:=by simpa using hb
     have e:Z6_ ⟨false,false,g,c,d⟩ (.mk t n 0 b l i)=false:=by
      simp [Z6_,Mat.a,Mat.b,Mat.n,Mat.l,Mat.i,hb]<;>omega
     exact q0_
   ·skip
    by_cases hf:g=-1
    ·subst hf
     by_cases hl:(l.length:Int)=n
     ·have h:((l.length:Int)==n)=true:=by simpa using hl
      by_cases h0:c≤(i.length:Int)
      ·by_cases h1:(i.length:Int)≤d
       ·skip
        have e:Z6_ ⟨false,true,-1,c,d⟩ (.mk t n 0 b l i)=true:=k11_;exact q0_
       ·have k:d<(i.length:Int):=by omega
        have e:Z6_ ⟨false,true,-1,c,d⟩ (.mk t n 0 b l i)=false:=y12_;exact q0_
      ·have j:(i.length:Int)<c:=by omega
       have e:Z6_ ⟨false,true,-1,c,d⟩ (.mk t n 0 b l i)=false:=z12_;exact q0_
     ·have h:((l.length:Int)==n)=false:=by simpa using hl
      have e:Z6_ ⟨false,true,-1,c,d⟩ (.mk t n 0 b l i)=false:=k13_;exact q0_
    ·have p:(g==-1)=false:=by simpa using hf
     by_cases hl:(l.length:Int)=g
     ·have h:((l.length:Int)==g)=true:=by simpa using hl
      by_cases h0:c≤(i.length:Int)
      ·by_cases h1:(i.length:Int)≤d
       ·skip
        have e:Z6_ ⟨false,true,g,c,d⟩ (.mk t n 0 b l i)=true:=x12_;exact q0_
       ·have k:d<(i.length:Int):=by omega
        have e:Z6_ ⟨false,true,g,c,d⟩ (.mk t n 0 b l i)=false:=z13_;exact q0_
      ·have j:(i.length:Int)<c:=by omega
       have e:Z6_ ⟨false,true,g,c,d⟩ (.mk t n 0 b l i)=false:=j13_;exact q0_
     ·have h:((l.length:Int)==g)=false:=by simpa using hl
      have e:Z6_ ⟨false,true,g,c,d⟩ (.mk t n 0 b l i)=false:=k14_;exact q0_
  ·have D:(a==0)=false:=by simpa using ha
   have e:Z6_ ⟨false,o,g,c,d⟩ (.mk t n a b l i)=false:=by
    simp [Z6_,Mat.a,Mat.b,Mat.n,Mat.l,Mat.i,ha]<;>omega
   exact q0_
 ·skip
  rcases o with _ | _
  ·by_cases hb:b=0
   ·subst hb
    by_cases hf:g=-1
    ·subst hf
     by_cases hl:(l.length:Int)=n
     ·have h:((l.length:Int)==n)=true:=by simpa using hl
      by_cases h0:c≤(i.length:Int)
      ·by_cases h1:(i.length:Int)≤d
       ·skip
        have e:Z6_ ⟨true,false,-1,c,d⟩ (.mk t n a 0 l i)=true:=k11_;exact q0_
       ·have k:d<(i.length:Int):=by omega
        have e:Z6_ ⟨true,false,-1,c,d⟩ (.mk t n a 0 l i)=false:=y12_;exact q0_
      ·have j:(i.length:Int)<c:=by omega
       have e:Z6_ ⟨true,false,-1,c,d⟩ (.mk t n a 0 l i)=false:=z12_;exact q0_
     ·have h:((l.length:Int)==n)=false:=by simpa using hl
      have e:Z6_ ⟨true,false,-1,c,d⟩ (.mk t n a 0 l i)=false:=k13_;exact q0_
    ·have p:(g==-1)=false:=by simpa using hf
     by_cases hl:(l.length:Int)=g
     ·have h:((l.length:Int)==g)=true:=by simpa using hl
      by_cases h0:c≤(i.length:Int)
      ·by_cases h1:(i.length:Int)≤d
       ·skip
        have e:Z6_ ⟨true,false,g,c,d⟩ (.mk t n a 0 l i)=true:=x12_;exact q0_
       ·have k:d<(i.length:Int):=by omega
        have e:Z6_ ⟨true,false,g,c,d⟩ (.mk t n a 0 l i)=false:=z13_;exact q0_
      ·have j:(i.length:Int)<c:=by omega
       have e:Z6_ ⟨true,false,g,c,d⟩ (.mk t n a 0 l i)=false:=j13_;exact q0_
     ·have h:((l.length:Int)==g)=false:=by simpa using hl
      have e:Z6_ ⟨true,false,g,c,d⟩ (.mk t n a 0 l i)=false:=k14_;exact q0_
   ·have z:(b==0)=false:=by simpa using hb
    have e:Z6_ ⟨true,false,g,c,d⟩ (.mk t n a b l i)=false:=by
     simp [Z6_,Mat.a,Mat.b,Mat.n,Mat.l,Mat.i,hb]<;>omega
    exact q0_
  ·skip
   by_cases hf:g=-1
   ·subst hf
    by_cases hl:(l.length:Int)=n
    ·have h:((l.length:Int)==n)=true:=by simpa using hl
     by_cases h0:c≤(i.length:Int)
     ·by_cases h1:(i.length:Int)≤d
      ·skip
       have e:Z6_ ⟨true,true,-1,c,d⟩ (.mk t n a b l i)=true:=k11_;exact q0_
      ·have k:d<(i.length:Int):=by omega
       have e:Z6_ ⟨true,true,-1,c,d⟩ (.mk t n a b l i)=false:=y12_;exact q0_
     ·have j:(i.length:Int)<c:=by omega
      have e:Z6_ ⟨true,true,-1,c,d⟩ (.mk t n a b l i)=false:=z12_;exact q0_
    ·have h:((l.length:Int)==n)=false:=by simpa using hl
     have e:Z6_ ⟨true,true,-1,c,d⟩ (.mk t n a b l i)=false:=k13_;exact q0_
   ·have p:(g==-1)=false:=by simpa using hf
    by_cases hl:(l.length:Int)=g
    ·have h:((l.length:Int)==g)=true:=by simpa using hl
     by_cases h0:c≤(i.length:Int)
     ·by_cases h1:(i.length:Int)≤d
      ·skip
       have e:Z6_ ⟨true,true,g,c,d⟩ (.mk t n a b l i)=true:=x12_;exact q0_
      ·have k:d<(i.length:Int):=by omega
       have e:Z6_ ⟨true,true,g,c,d⟩ (.mk t n a b l i)=false:=z13_;exact q0_
     ·have j:(i.length:Int)<c:=by omega
      have e:Z6_ ⟨true,true,g,c,d⟩ (.mk t n a b l i)=false:=j13_;exact q0_
    ·have h:((l.length:Int)==g)=false:=by simpa using hl
     have e:Z6_ ⟨true,true,g,c,d⟩ (.mk t n a b l i)=false:=k14_;exact q0_
open Go.RowKit
theorem E6_ (n:Int):(allL n).length≤1048576:=by
 unfold allL;split
 ·simp
 ·simp
  omega
theorem P2_ (m:Mat) (v:Value) (w:World) (O:MatV w w.heap.size v m) (hs:Sml m) (hl:0<m.l.length) (hi:0<m.i.length):Calls Tryz.prog 173 #[v] w (Says w (partB m)):=by
 obtain ⟨lv,iv,rfl,⟨Al,o,rfl,_,K⟩,⟨Ai,k,rfl,_,J⟩⟩:=O.open;obtain ⟨d,u,T,V,C,N⟩:=K 0 hl;obtain ⟨c,u2,U,X,x2,M⟩:=J 0 hi;subst T U;have x5:=sml_r hs (Y6_ m.l 0 [] hl);obtain ⟨x7,x6,rfl,_,_⟩:=M.open;obtain ⟨_,s1,_,_,_,_,h,_,c1,_⟩:=x2;injection h with h;injection h with h;injection h with _ h;injection h with h _;subst h;have x4:(0:Int)<(m.l.length:Int):=k29_;have x3:(0:Int)<(m.i.length:Int):=k29_;rw [show (0:Nat) * 6=0 from rfl,add_zero] at c1;rw [add_zero] at C;have I:=E6_ (inn m).n;unfold partB row inn;unfold inn at I;generalize m.l.getD 0 []=r at *
 generalize m.i.getD 0 default=x at *
 have y:=hid (Z3_ w m (.slice (some d) m.l.length o) (.slice (some c) m.i.length k));have j:=hid (Z1_ w m (.slice (some d) m.l.length o) (.slice (some c) m.i.length k));unfold boxed at *
 have E:=y.out.cell 4;have F:=y.out.cell 5;have H:=(j.out.cell (p:=d) V).trans C;have G:=(j.out.cell (p:=⟨c.block,c.off+1,none⟩) X).trans c1;have D:=hid (N.up j.out);clear K J M hs O N C c1;obtain ⟨g,hW0⟩:∃ g,g=w.alloc (.cells #[.int .i64 m.t,.int .i64 m.n,.int .i64 m.a,.int .i64 m.b,.slice (some d) m.l.length o,.slice (some c) m.i.length k] 37):=⟨_,rfl⟩;have R:=hid hW0;have L:w.heap.size<g.heap.size:=j31_;have Y:d.block<g.heap.size:=k29_;have Z:c.block<g.heap.size:=k29_;rw [← hW0] at j E F H G D;clear y
 go_enter Tryz.func173,Tryz.ntmps173
 go_wp2;rw [← R.out];clear hW0;have P:∀ W,Below g.drew.heap.size g.drew W→W.cell? ⟨w.heap.size,4,none⟩=some (.slice (some d) m.l.length o)∧W.cell? ⟨w.heap.size,5,none⟩=some (.slice (some c) m.i.length k)∧W.cell? d=some u∧W.cell? ⟨c.block,c.off+1,none⟩=some (.int .i64 x.n):=fun W s =>
  ⟨(s.cell (p:=⟨w.heap.size,4,none⟩) L).trans E,(s.cell (p:=⟨w.heap.size,5,none⟩) L).trans F,(s.cell (p:=d) Y).trans H,(s.cell (p:=⟨c.block,c.off+1,none⟩) Z).trans G⟩
 have z:=hid P;clear P
 go_region_held3 (fun W=>W.cell? ⟨w.heap.size,4,none⟩=some (.slice (some d) m.l.length o)∧W.cell? ⟨w.heap.size,5,none⟩=some (.slice (some c) m.i.length k)∧W.cell? d=some u∧W.cell? ⟨c.block,c.off+1,none⟩=some (.int .i64 x.n))
  (first | exact z.out _ (Below.refl _ _) | exact z.out _ q | exact z.out _ (Z0_ q (Nat.le_refl _) B))
  (first
  | (go_at_call 63;refine (A5_ _ _).mono ?_;rintro e Q ⟨v1,rfl,x0,q⟩;have x1:Row Q Q.heap.size u r:=(show Row g.drew g.drew.heap.size u r from D.out).up q)
  | (go_at_call 76;refine (R9_ _ _ r (allL x.n) _ x1 x0 k29_ I).mono ?_;rintro e w2 ⟨rfl,B⟩))
 all_goals
  have S:=hid (Z0_ (Z0_ j.out.drew (Nat.le_refl _) q) (Nat.le_refl _) B);clear q B;go_simp;go_wp2;go_ret;exact ⟨rfl,S.out⟩
open Go.RowKit
theorem F2_ {w:World} {t:TypeId} {cs:Array Value}:∀ W,Below (w.heap.size+1) (w.alloc (.cells cs t)) W→∀ i,W.cell? ⟨w.heap.size,i,none⟩=cs[i]? :=
 fun _ c i=>(c.cell (p:=⟨w.heap.size,i,none⟩) (by show w.heap.size<_;omega)).trans ((Blk.new w t cs).cell i)
theorem Zq8 (m:Mat) (v:Value) (w:World) (u:MatV w w.heap.size v m) (hs:Sml m) (K:7≤m.t):Calls Tryz.prog 149 #[v] w (Says w (fitsB m)):=by
 have L:=U5_ hs;obtain ⟨d,x,rfl,_,s⟩:=u.open;have r:fitsB m=decide (m.n=tog m.i):=x14_;rw [r];have Hb0:=hid (Z1_ w m d x);have p:=hid (s.upA (.cells #[.int .i64 m.t,.int .i64 m.n,.int .i64 m.a,.int .i64 m.b,d,x] 37));obtain ⟨g,h,rfl,_⟩:=s;have k:=hid (F2_ (w:=w) (t := 37) (cs:=#[.int .i64 m.t,.int .i64 m.n,.int .i64 m.a,.int .i64 m.b,d,.slice g m.i.length h]));unfold boxed at *
 have I:=(Blk.new w 37 #[.int .i64 m.t,.int .i64 m.n,.int .i64 m.a,.int .i64 m.b,d,.slice g m.i.length h]).cell 0;have B:(m.t==0)=false:=k30_;have C:(m.t==1)=false:=k30_;have D:(m.t==2)=false:=k30_;have E:(m.t==3)=false:=k30_;have F:(m.t==4)=false:=k30_;have G:(m.t==5)=false:=k30_;have H:(m.t==6)=false:=k30_;clear r u hs K;obtain ⟨c,hW0⟩:∃ c,c=w.alloc (.cells #[.int .i64 m.t,.int .i64 m.n,.int .i64 m.a,.int .i64 m.b,d,.slice g m.i.length h] 37):=⟨_,rfl⟩;have o:c.heap.size=w.heap.size+1:=j31_;have M:=hid o;have y:=hid hW0;rw [← hW0] at Hb0 p k I;rw [← o] at k;have z:Hid (∀ W,Below c.heap.size c W→Calls Tryz.prog 174 #[.slice g m.i.length h] W fun e w'=>e=.returned (.int .i64 (tog m.i))∧Below c.heap.size c w'):=fun W j =>
  (Zn6 _ m.i _ (p.out.up j) L).mono fun _ _ ⟨J,h2⟩=>⟨J,Z0_ j (Nat.le_refl _) h2⟩
 go_enter Tryz.func149,Tryz.ntmps149
 go_wp2;rw [← y.out];clear hW0 o B C D E F G H;refine Z5_ c.heap.size c q30_ q30_ (Below.refl _ _) ?_
 iterate 7 (first
  | go_big_quiet_step (exact z.out _)
  | (go_big_quiet_want;apply Exists.intro;refine ⟨fun W j=>?_,?_⟩;(· have q:=k.out W j;have q1:=q 1;have q5:=q 5;clear q;go_simp;first | exact rfl | exact ⟨rfl,rfl⟩);go_simp;go_big_quiet_on))
 exact x2_
end Go.Proofs.YtheeajnkiniopaaGreatDoor.Wp
