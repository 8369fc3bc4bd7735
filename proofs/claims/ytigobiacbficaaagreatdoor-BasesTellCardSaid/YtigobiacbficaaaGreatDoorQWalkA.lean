/- Regions of several orders by one walk; the program's together, takes, part, walked; and its fits, where what lies within counts together. -/
import Derived.Test.YtigobiacbficaaaGreatDoorZO
import Derived.BigQuiet
import Derived.IntWalk
import Derived.Deep.QuietTactic
import Derived.Deep.RegionHeld3
import Derived.Test.YtigobiacbficaaaGreatDoorX0A
import Derived.Test.YtigobiacbficaaaGreatDoorX0B
set_option maxHeartbeats 8000000
set_option maxRecDepth 100000
open Go.Lib (hid)
namespace Go.Proofs.YtigobiacbficaaaGreatDoor.Wp
open Go.RowKit
theorem Z6_ {P:Program} {id:Nat} {Q:Exit→Act→World→Prop} {a:Act} {w:World} {l:List Oper} (B:Nat) (w0:World) (e:P.follows .mixedOrders=true) (d:Region.lexB .any l.toArray=true) (hC:Below B w0 w)
  (h:wpQuiet P l.toArray (Below B w0) (fun c=>∀ w',Below B w0 w'→Q .normal c w') l a):(Code.region id l.toArray true).wp P Q a w :=
 wp_region_quiet (C:=Below B w0) e d ⟨hC.os,hC.tape,hC.output,hC.size,hC.block⟩ k44_
theorem V7_ {w0:World} {B:Nat} {p:Addr} {v:Value} (h:w0.cell? p=some v) (d:p.block<B):∀ W,Below B w0 W→W.cell? p=some v:=fun _ c=>(c.cell d).trans h
theorem Xk5 (x:Int):IntKind.i64.wrap x=wrap64 x:=IntWalk.i64_left x
theorem Ys2 {l:List Mat} {i:Nat} (h:i<l.length):tog (l.take (i+1))=IntKind.i64.wrap (tog (l.take i)+(l.getD i default).n):=by
 rw [Ze5 l i default h];unfold tog;rw [List.foldl_append];rfl
theorem Yj9 (v:Value) (i:List Mat) (w:World) (F:MatL w w.heap.size v i) (H:i.length≤1000):Calls Tryz.prog 175 #[v] w (Tells w (tog i)):=by
 obtain ⟨A,c,rfl,_,g⟩:=F;have y:=hid g;have K:(i.length:Int)≤1000:=y40_;clear g H
 go_enter Tryz.func175,Tryz.ntmps175
 go_wp2
 go_loopw [3,8] (fun vn h wr=>∃ k:Nat,h=.int .i64 k∧k≤i.length∧vn=.int .i64 (tog (i.take k))∧Below w.heap.size w wr) (fun _ h _=>i.length - (intOf h).toNat)
 case atStart=>exact ⟨0,rfl,Nat.zero_le _,rfl,Below.refl _ _⟩
 case round =>
  obtain ⟨k,rfl,g,rfl,e⟩:=hrel;have Hbr:=hid e;by_cases j:k<i.length
  ·have L:(k:Int)<(i.length:Int):=by omega
   obtain ⟨J,u,D,hab,p,o⟩:=y.out k j;subst D;have I:=p.below e x42_;obtain ⟨N,M,q,⟨x,cl,rfl,_⟩,⟨r,C,rfl,_⟩⟩:=o.open;obtain ⟨U,V,W,X,Y,Z,d,O,P,Q,R,S,T⟩:=I;rw [q] at d;injection d with d;injection d with d;injection d with e0 d;injection d with e1 d;injection d with e2 d;injection d with e3 d;injection d with e4 d;injection d with e5 d;subst e0 e1 e2 e3 e4 e5;have z:=hid (Ys2 j);have E:=hid ((Below.refl wr.heap.size wr).alloc (Nat.le_refl _) (.cells #[.int .i64 (i.getD k default).t,.int .i64 (i.getD k default).n,.int .i64 (i.getD k default).a,   .int .i64 (i.getD k default).b,.slice x (i.getD k default).l.length cl,.slice r (i.getD k default).i.length C] 25));clear d q o p e;generalize i.getD k default=m at *
   generalize tog (i.take k)=s at *
   go_wp2
   go_roundw
   case rel=>exact ⟨k+1,j41_,y40_,by rw [z.out,Xk5],Hbr.out.trans (E.out.mono Hbr.out.size)⟩
   exact mz_
  ·have G:k=i.length:=by omega
   subst G;have B:Hid (i.take i.length=i):=List.take_length;rw [B.out];exact y15_
open Go.RowKit
theorem Xv9 (w:World) (c d:Obj):Below w.heap.size w ((w.alloc c).alloc d):=((Below.refl _ w).alloc (Nat.le_refl _) _).alloc k40_ _
theorem Xk6 (f:Form) (m:Mat) (v:Value) (w:World) (r:MatV w w.heap.size v m) (hs:Sml m):Calls Tryz.prog 151 #[formV f,v] w (Says w (Z9_ f m)):=by
 have B:=sml_l hs;have z:=Zj7 hs;obtain ⟨G,F,rfl,⟨u,cl,rfl,_⟩,⟨s,x,rfl,_⟩⟩:=r.open;clear r hs;obtain ⟨t,n,a,b,l,i⟩:=m;obtain ⟨q,o,g,c,d⟩:=f;simp only [Mat.t,Mat.n,Mat.a,Mat.b,Mat.l,Mat.i,formV] at *
 have E:(l.length:Int)≤1000:=y40_;have D:(i.length:Int)≤1000:=y40_;have Hb:=hid (Xv9 w (.cells #[.bool q,.bool o,.int .i64 g,.int .i64 c,.int .i64 d] 153) (.cells #[.int .i64 t,.int .i64 n,.int .i64 a,.int .i64 b,.slice u l.length cl,.slice s i.length x] 25));clear B z;rcases q with _ | _
 ·by_cases ha:a=0
  ·subst ha
   rcases o with _ | _
   ·by_cases hb:b=0
    ·subst hb
     by_cases hf:g=-1
     ·subst hf
      by_cases hl:(l.length:Int)=n
      ·have h:((l.length:Int)==n)=true:=by simpa using hl
       by_cases h0:c≤(i.length:Int)
       ·by_cases h1:(i.length:Int)≤d
        ·skip
         have e:Z9_ ⟨false,false,-1,c,d⟩ (.mk t n 0 0 l i)=true:=q16_;exact q0_
        ·have k:d<(i.length:Int):=by omega
         have e:Z9_ ⟨false,false,-1,c,d⟩ (.mk t n 0 0 l i)=false:=k16_;exact q0_
       ·have j:(i.length:Int)<c:=by omega
        have e:Z9_ ⟨false,false,-1,c,d⟩ (.mk t n 0 0 l i)=false:=q17_;exact q0_
      ·have h:((l.length:Int)==n)=false:=by simpa using hl
       have e:Z9_ ⟨false,false,-1,c,d⟩ (.mk t n 0 0 l i)=false:=q19_;exact q0_
     ·have p:(g==-1)=false:=by simpa using hf
      by_cases hl:(l.length:Int)=g
      ·have h:((l.length:Int)==g)=true:=by simpa using hl
       by_cases h0:c≤(i.length:Int)
       ·by_cases h1:(i.length:Int)≤d
        ·skip
         have e:Z9_ ⟨false,false,g,c,d⟩ (.mk t n 0 0 l i)=true:=j16_;exact q0_
        ·have k:d<(i.length:Int):=by omega
         have e:Z9_ ⟨false,false,g,c,d⟩ (.mk t n 0 0 l i)=false:=z18_;exact q0_
       ·have j:(i.length:Int)<c:=by omega
        have e:Z9_ ⟨false,false,g,c,d⟩ (.mk t n 0 0 l i)=false:=j18_;exact q0_
      ·have h:((l.length:Int)==g)=false:=by simpa using hl
       have e:Z9_ ⟨false,false,g,c,d⟩ (.mk t n 0 0 l i)=false:=q20_;exact q0_
    ·have y:(b==0)=false:=by simpa using hb
     have e:Z9_ ⟨false,false,g,c,d⟩ (.mk t n 0 b l i)=false:=by
      simp [Z9_,Mat.a,Mat.b,Mat.n,Mat.l,Mat.i,hb]<;>omega
     exact q0_
   ·skip
    by_cases hf:g=-1
    ·subst hf
     by_cases hl:(l.length:Int)=n
     ·have h:((l.length:Int)==n)=true:=by simpa using hl
      by_cases h0:c≤(i.length:Int)
      ·by_cases h1:(i.length:Int)≤d
       ·skip
        have e:Z9_ ⟨false,true,-1,c,d⟩ (.mk t n 0 b l i)=true:=q16_;exact q0_
       ·have k:d<(i.length:Int):=by omega
        have e:Z9_ ⟨false,true,-1,c,d⟩ (.mk t n 0 b l i)=false:=k16_;exact q0_
      ·have j:(i.length:Int)<c:=by omega
       have e:Z9_ ⟨false,true,-1,c,d⟩ (.mk t n 0 b l i)=false:=q17_;exact q0_
     ·have h:((l.length:Int)==n)=false:=by simpa using hl
      have e:Z9_ ⟨false,true,-1,c,d⟩ (.mk t n 0 b l i)=false:=q19_;exact q0_
    ·have p:(g==-1)=false:=by simpa using hf
     by_cases hl:(l.length:Int)=g
     ·have h:((l.length:Int)==g)=true:=by simpa using hl
      by_cases h0:c≤(i.length:Int)
      ·by_cases h1:(i.length:Int)≤d
       ·skip
        have e:Z9_ ⟨false,true,g,c,d⟩ (.mk t n 0 b l i)=true:=j16_;exact q0_
       ·have k:d<(i.length:Int):=by omega
        have e:Z9_ ⟨false,true,g,c,d⟩ (.mk t n 0 b l i)=false:=z18_;exact q0_
      ·have j:(i.length:Int)<c:=by omega
       have e:Z9_ ⟨false,true,g,c,d⟩ (.mk t n 0 b l i)=false:=j18_;exact q0_
     ·have h:((l.length:Int)==g)=false:=by simpa using hl
      have e:Z9_ ⟨false,true,g,c,d⟩ (.mk t n 0 b l i)=false:=q20_;exact q0_
  ·have C:(a==0)=false:=by simpa using ha
   have e:Z9_ ⟨false,o,g,c,d⟩ (.mk t n a b l i)=false:=by
    simp [Z9_,Mat.a,Mat.b,Mat.n,Mat.l,Mat.i,ha]<;>omega
   exact q0_
 ·skip
  rcases o with _ | _
  ·by_cases hb:b=0
   ·subst hb
    by_cases hf:g=-1
    ·subst hf
     by_cases hl:(l.length:Int)=n
     ·have h:((l.length:Int)==n)=true:=by simpa using hl
      by_cases h0:c≤(i.length:Int)
      ·by_cases h1:(i.length:Int)≤d
       ·skip
        have e:Z9_ ⟨true,false,-1,c,d⟩ (.mk t n a 0 l i)=true:=q16_;exact q0_
       ·have k:d<(i.length:Int):=by omega
        have e:Z9_ ⟨true,false,-1,c,d⟩ (.mk t n a 0 l i)=false:=k16_;exact q0_
      ·have j:(i.length:Int)<c:=by omega
       have e:Z9_ ⟨true,false,-1,c,d⟩ (.mk t n a 0 l i)=false:=q17_;exact q0_
     ·have h:((l.length:Int)==n)=false:=by simpa using hl
      have e:Z9_ ⟨true,false,-1,c,d⟩ (.mk t n a 0 l i)=false:=q19_;exact q0_
    ·have p:(g==-1)=false:=by simpa using hf
     by_cases hl:(l.length:Int)=g
     ·have h:((l.length:Int)==g)=true:=by simpa using hl
      by_cases h0:c≤(i.length:Int)
      ·by_cases h1:(i.length:Int)≤d
       ·skip
        have e:Z9_ ⟨true,false,g,c,d⟩ (.mk t n a 0 l i)=true:=j16_;exact q0_
       ·have k:d<(i.length:Int):=by omega
        have e:Z9_ ⟨true,false,g,c,d⟩ (.mk t n a 0 l i)=false:=z18_;exact q0_
      ·have j:(i.length:Int)<c:=by omega
       have e:Z9_ ⟨true,false,g,c,d⟩ (.mk t n a 0 l i)=false:=j18_;exact q0_
     ·have h:((l.length:Int)==g)=false:=by simpa using hl
      have e:Z9_ ⟨true,false,g,c,d⟩ (.mk t n a 0 l i)=false:=q20_;exact q0_
   ·have y:(b==0)=false:=by simpa using hb
    have e:Z9_ ⟨true,false,g,c,d⟩ (.mk t n a b l i)=false:=by
     simp [Z9_,Mat.a,Mat.b,Mat.n,Mat.l,Mat.i,hb]<;>omega
    exact q0_
  ·skip
   by_cases hf:g=-1
   ·subst hf
    by_cases hl:(l.length:Int)=n
    ·have h:((l.length:Int)==n)=true:=by simpa using hl
     by_cases h0:c≤(i.length:Int)
     ·by_cases h1:(i.length:Int)≤d
      ·skip
       have e:Z9_ ⟨true,true,-1,c,d⟩ (.mk t n a b l i)=true:=q16_;exact q0_
      ·have k:d<(i.length:Int):=by omega
       have e:Z9_ ⟨true,true,-1,c,d⟩ (.mk t n a b l i)=false:=k16_;exact q0_
     ·have j:(i.length:Int)<c:=by omega
      have e:Z9_ ⟨true,true,-1,c,d⟩ (.mk t n a b l i)=false:=q17_;exact q0_
    ·have h:((l.length:Int)==n)=false:=by simpa using hl
     have e:Z9_ ⟨true,true,-1,c,d⟩ (.mk t n a b l i)=false:=q19_;exact q0_
   ·have p:(g==-1)=false:=by simpa using hf
    by_cases hl:(l.length:Int)=g
    ·have h:((l.length:Int)==g)=true:=by simpa using hl
     by_cases h0:c≤(i.length:Int)
     ·by_cases h1:(i.length:Int)≤d
      ·skip
       have e:Z9_ ⟨true,true,g,c,d⟩ (.mk t n a b l i)=true:=j16_;exact q0_
      ·have k:d<(i.length:Int):=by omega
       have e:Z9_ ⟨true,true,g,c,d⟩ (.mk t n a b l i)=false:=z18_;exact q0_
     ·have j:(i.length:Int)<c:=by omega
      have e:Z9_ ⟨true,true,g,c,d⟩ (.mk t n a b l i)=false:=j18_;exact q0_
    ·have h:((l.length:Int)==g)=false:=by simpa using hl
     have e:Z9_ ⟨true,true,g,c,d⟩ (.mk t n a b l i)=false:=q20_;exact q0_
open Go.RowKit
theorem D4_ (n:Int):(allL n).length≤1048576:=by
 unfold allL;split
 ·simp
 ·simp
  omega
theorem W4_ (m:Mat) (v:Value) (w:World) (N:MatV w w.heap.size v m) (hs:Sml m) (hl:0<m.l.length) (Z:0<m.i.length):Calls Tryz.prog 174 #[v] w (Says w (partB m)):=by
 obtain ⟨lv,iv,rfl,⟨Al,cl,rfl,_,J⟩,⟨Ai,k,rfl,_,I⟩⟩:=N.open;obtain ⟨d,u,S,U,B,M⟩:=J 0 hl;obtain ⟨c,u2,T,V,x2,L⟩:=I 0 Z;subst S T;have x5:=sml_r hs (Y4_ m.l 0 [] hl);obtain ⟨x7,x6,rfl,_,_⟩:=L.open;obtain ⟨_,s1,_,_,_,_,h,_,c1,_⟩:=x2;injection h with h;injection h with h;injection h with _ h;injection h with h _;subst h;have x4:(0:Int)<(m.l.length:Int):=y40_;have x3:(0:Int)<(m.i.length:Int):=y40_;rw [show (0:Nat) * 6=0 from rfl,add_zero] at c1;rw [add_zero] at B;have H:=D4_ (inn m).n;unfold partB row inn;unfold inn at H;generalize m.l.getD 0 []=r at *
 generalize m.i.getD 0 default=x at *
 have s:=hid (Z4_ w m (.slice (some d) m.l.length cl) (.slice (some c) m.i.length k));have j:=hid (Z1_ w m (.slice (some d) m.l.length cl) (.slice (some c) m.i.length k));unfold boxed at *
 have D:=s.out.cell 4;have E:=s.out.cell 5;have G:=(j.out.cell (p:=d) U).trans B;have F:=(j.out.cell (p:=⟨c.block,c.off+1,none⟩) V).trans c1;have C:=hid (M.up j.out);clear J I L hs N M B c1;obtain ⟨g,hW0⟩:∃ g,g=w.alloc (.cells #[.int .i64 m.t,.int .i64 m.n,.int .i64 m.a,.int .i64 m.b,.slice (some d) m.l.length cl,.slice (some c) m.i.length k] 25):=⟨_,rfl⟩;have Q:=hid hW0;have K:w.heap.size<g.heap.size:=z42_;have X:d.block<g.heap.size:=y40_;have Y:c.block<g.heap.size:=y40_;rw [← hW0] at j D E G F C;clear s
 go_enter Tryz.func174,Tryz.ntmps174
 go_wp2;rw [← Q.out];clear hW0;have O:∀ W,Below g.drew.heap.size g.drew W→W.cell? ⟨w.heap.size,4,none⟩=some (.slice (some d) m.l.length cl)∧W.cell? ⟨w.heap.size,5,none⟩=some (.slice (some c) m.i.length k)∧W.cell? d=some u∧W.cell? ⟨c.block,c.off+1,none⟩=some (.int .i64 x.n):=fun W q =>
  ⟨(q.cell (p:=⟨w.heap.size,4,none⟩) K).trans D,(q.cell (p:=⟨w.heap.size,5,none⟩) K).trans E,(q.cell (p:=d) X).trans G,(q.cell (p:=⟨c.block,c.off+1,none⟩) Y).trans F⟩
 have y:=hid O;clear O
 go_region_held3 (fun W=>W.cell? ⟨w.heap.size,4,none⟩=some (.slice (some d) m.l.length cl)∧W.cell? ⟨w.heap.size,5,none⟩=some (.slice (some c) m.i.length k)∧W.cell? d=some u∧W.cell? ⟨c.block,c.off+1,none⟩=some (.int .i64 x.n))
  (first | exact y.out _ (Below.refl _ _) | exact y.out _ o | exact y.out _ (Z0_ o (Nat.le_refl _) z))
  (first
  | (go_at_call 32;refine (D0_ _ _).mono ?_;rintro e P ⟨v1,rfl,x0,o⟩;have x1:Row P P.heap.size u r:=(show Row g.drew g.drew.heap.size u r from C.out).up o)
  | (go_at_call 72;refine (Zy0 _ _ r (allL x.n) _ x1 x0 y40_ H).mono ?_;rintro e w2 ⟨rfl,z⟩))
 all_goals
  have R:=hid (Z0_ (Z0_ j.out.drew (Nat.le_refl _) o) (Nat.le_refl _) z);clear o z;go_simp;go_wp2;go_ret;exact ⟨rfl,R.out⟩
open Go.RowKit
theorem K1_ {w:World} {t:TypeId} {cs:Array Value}:∀ W,Below (w.heap.size+1) (w.alloc (.cells cs t)) W→∀ i,W.cell? ⟨w.heap.size,i,none⟩=cs[i]? :=
 fun _ c i=>(c.cell (p:=⟨w.heap.size,i,none⟩) (by show w.heap.size<_;omega)).trans ((Blk.new w t cs).cell i)
theorem Zi8 (m:Mat) (v:Value) (w:World) (u:MatV w w.heap.size v m) (hs:Sml m) (K:7≤m.t):Calls Tryz.prog 152 #[v] w (Says w (fitsB m)):=by
 have L:=Zj7 hs;obtain ⟨d,x,rfl,_,s⟩:=u.open;have r:fitsB m=decide (m.n=tog m.i):=y19_;rw [r];have Hb0:=hid (Z1_ w m d x);have p:=hid (s.upA (.cells #[.int .i64 m.t,.int .i64 m.n,.int .i64 m.a,.int .i64 m.b,d,x] 25));obtain ⟨g,h,rfl,_⟩:=s;have k:=hid (K1_ (w:=w) (t := 25) (cs:=#[.int .i64 m.t,.int .i64 m.n,.int .i64 m.a,.int .i64 m.b,d,.slice g m.i.length h]));unfold boxed at *
 have I:=(Blk.new w 25 #[.int .i64 m.t,.int .i64 m.n,.int .i64 m.a,.int .i64 m.b,d,.slice g m.i.length h]).cell 0;have B:(m.t==0)=false:=x41_;have C:(m.t==1)=false:=x41_;have D:(m.t==2)=false:=x41_;have E:(m.t==3)=false:=x41_;have F:(m.t==4)=false:=x41_;have G:(m.t==5)=false:=x41_;have H:(m.t==6)=false:=x41_;clear r u hs K;obtain ⟨c,hW0⟩:∃ c,c=w.alloc (.cells #[.int .i64 m.t,.int .i64 m.n,.int .i64 m.a,.int .i64 m.b,d,.slice g m.i.length h] 25):=⟨_,rfl⟩;have o:c.heap.size=w.heap.size+1:=z42_;have M:=hid o;have y:=hid hW0;rw [← hW0] at Hb0 p k I;rw [← o] at k;have z:Hid (∀ W,Below c.heap.size c W→Calls Tryz.prog 175 #[.slice g m.i.length h] W fun e w'=>e=.returned (.int .i64 (tog m.i))∧Below c.heap.size c w'):=fun W j =>
  (Yj9 _ m.i _ (p.out.up j) L).mono fun _ _ ⟨J,h2⟩=>⟨J,Z0_ j (Nat.le_refl _) h2⟩
 go_enter Tryz.func152,Tryz.ntmps152
 go_wp2;rw [← y.out];clear hW0 o B C D E F G H;refine Z6_ c.heap.size c z40_ z40_ (Below.refl _ _) ?_
 iterate 7 (first
  | go_big_quiet_step (exact z.out _)
  | (go_big_quiet_want;apply Exists.intro;refine ⟨fun W j=>?_,?_⟩;(· have q:=k.out W j;have q1:=q 1;have q5:=q 5;clear q;go_simp;first | exact rfl | exact ⟨rfl,rfl⟩);go_simp;go_big_quiet_on))
 exact k2_
end Go.Proofs.YtigobiacbficaaaGreatDoor.Wp
