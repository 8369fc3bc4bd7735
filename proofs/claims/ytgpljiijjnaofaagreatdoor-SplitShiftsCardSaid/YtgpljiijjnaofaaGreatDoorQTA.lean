/- The document's deep, numbers, prime, columns' May and sides' May, walked. -/
import Derived.Test.YtgpljiijjnaofaaGreatDoorZO
import Derived.Test.YtgpljiijjnaofaaGreatDoorZE
import Derived.Test.YtgpljiijjnaofaaGreatDoorZU
import Derived.Test.YtgpljiijjnaofaaGreatDoorGPlaces
import Derived.Test.YtgpljiijjnaofaaGreatDoorX0A
import Derived.Test.YtgpljiijjnaofaaGreatDoorX0C
set_option maxHeartbeats 4000000
set_option maxRecDepth 100000
open Go.Lib (hid)
namespace Go.Proofs.YtgpljiijjnaofaaGreatDoor.Wp
private theorem q1_ {P:Prop} (h:P:=by intro w;go_simp;try with_reducible rfl):P:=h
private theorem x31_ {P:Prop} (h:P:=by simp [Region.wanted,yielded,go_sem,undef]):P:=h
end Go.Proofs.YtgpljiijjnaofaaGreatDoor.Wp
namespace Go.Proofs.YtgpljiijjnaofaaGreatDoor
open Go.RowKit
namespace Wp
theorem Y1_ (t:Int) (w:World):Calls Tryz.prog 50 #[.int .i64 t] w (Says w (decide (nest t))):=by
 by_cases c:t<5
 ·rw [show decide (nest t)=false from decide_eq_false (by unfold nest;omega)]
  exact y28_
 ·have d:5≤t:=by omega
  rw [show decide (nest t)=decide (t≤9) from decide_eq_decide.2 ⟨fun h=>h.2,fun h=>⟨d,h⟩⟩];clear c;exact y28_
theorem Yw6:∀ (k:Nat) (m:Mat) (v:Value) (w:World) (left:Int),left=(k:Int)→k≤10→MatV w w.heap.size v m→Sml m→Calls Tryz.prog 30 #[v,.int .i64 left] w (Tells w (dp k m)):=by
 intro k
 induction k with
 | zero =>
  intro m v w left C _ G hs;obtain ⟨h,Z,rfl,hl,hi⟩:=G.open;obtain ⟨A,c,rfl,T,x⟩:=hi;have W:=U1_ hs;have X:(m.i.length:Int)≤1000:=k30_;have Hb0:=hid (Z1_ w m h (.slice A m.i.length c));have g:=Z3_ w m h (.slice A m.i.length c);have r:=g.cell 0;have s:=g.cell 5;subst C;clear g x hl;unfold boxed at *
  by_cases h3:(0:Int)<(m.i.length:Int)
  ·exact y24_
  ·exact y24_
 | succ k ih =>
  intro m v w left C x9 G hs;obtain ⟨h,Z,rfl,hl,hi⟩:=G.open;obtain ⟨A,c,rfl,T,x⟩:=hi;have J:=hid x;have S:=hid hs;have K:=hid ih;have W:=U1_ hs;have X:(m.i.length:Int)≤1000:=k30_;have Hb0:=hid (Z1_ w m h (.slice A m.i.length c));have y:=hid (Z3_ w m h (.slice A m.i.length c));have r:=y.out.cell 0;have s:=y.out.cell 5;have xd:(k:Int)+1=left:=k30_;have xc:0<left:=k30_;have xa:(k:Int)≤10:=k30_;have xe:IntKind.i64.wrap (left - 1)=(k:Int):=k31_;clear x hl C ih hs;unfold boxed at *
  by_cases p:nest m.t
  ·have hd:Hid (dp (k+1) m=1+maxN (m.i.map (dp k))):=by
    show dp (k+1) m=_;rw [dp,if_pos p]
   have B:=hid p;clear p r s
   go_enter Tryz.func30,Tryz.ntmps30
   go_wp2
   go_loopw [5,6] (fun vd H wr=>∃ (d i:Nat),vd=.int .i64 d∧H=.int .i64 i∧i≤m.i.length∧d=Wp.most k i m.i∧Blk wr w.heap.size 25 #[.int .i64 m.t,.int .i64 m.n,.int .i64 m.a,.int .i64 m.b,h,.slice A m.i.length c]∧Below w.heap.size w wr) (fun _ H _=>m.i.length - (intOf H).toNat)
   case atStart=>exact ⟨0,0,rfl,rfl,Nat.zero_le _,by rw [Zx9],y.out,Hb0.out⟩
   case round =>
    obtain ⟨d,i,rfl,rfl,hi,N,g,M⟩:=hrel;have Hbr:=hid M;have z:=hid g;have s:=g.cell 5;have r:=g.cell 0;have U:=Yz2 k i m.i;have x8:(d:Int)≤(k:Int)+1:=k30_;have Hdm:=hid N;clear M g N;by_cases E:i<m.i.length
    ·have xb:(i:Int)<(m.i.length:Int):=by omega
     have o:=hid (Y1_ m.t wr);rw [decide_eq_true B.out] at o
     go_wp2_with fail
     refine (o.out).mono ?_;rintro e R ⟨rfl,q⟩;have j:=hid (Z0_ Hbr.out (Nat.le_refl _) q);have Hblk2:=hid (z.out.below q z.out.lt);have x6:=Hblk2.out.cell 5;obtain ⟨ad,u,hA,hab,Q,O⟩:=J.out i E;subst hA;have Y:=Q.below j.out y32_;have P:=(O.bel j.out).mono j.out.size;have I:=hid (K.out (m.i.getD i default) u R (k:Int) rfl k30_ P (sml_i S.out (X0_ _ _ _ E)));have F:=Zv1 k i m.i E;have V:=dp_le k (m.i.getD i default);obtain ⟨x0,x1,x2,x3,x4,x5,rfl,s0,s1,s2,s3,s4,s5⟩:=Y;obtain ⟨D,L⟩:∃ D,dp k (m.i.getD i default)=D:=⟨_,rfl⟩;rw [L] at I F V;have x7:(D:Int)≤(k:Int)+1:=k30_;have Hms:=hid F;clear Q O P J K L F U s r q o z
     go_wp2_with fail
     refine (I.out).mono ?_;rintro e w1 ⟨rfl,hb1⟩;have Hb1:=hid (Z0_ j.out (Nat.le_refl _) hb1);exact j5_
    ·exact y8_
  ·have hd:Hid (dp (k+1) m=1):=by
    show dp (k+1) m=1;rw [dp,if_neg p]
   have B:=hid p;clear p;by_cases h3:(0:Int)<(m.i.length:Int)
   ·go_enter Tryz.func30,Tryz.ntmps30
    go_wp2;refine wp_loop_rounds 1 ?_;rw [rounds_succ]
    go_wp2_with fail
    have o:=hid (Y1_ m.t (w.alloc (.cells #[.int .i64 m.t,.int .i64 m.n,.int .i64 m.a,.int .i64 m.b,h,.slice A m.i.length c] 25)));rw [decide_eq_false B.out] at o;refine (o.out).mono ?_;rintro e R ⟨rfl,q⟩;have j:=hid (Z0_ Hb0.out (Nat.le_refl _) q);go_wp2;go_ret;exact ⟨by rw [hd.out];rfl,j.out⟩
   ·exact x8_
theorem Zo0 (m:Mat) (v:Value) (w:World) (d:MatV w w.heap.size v m) (hs:Sml m):Calls Tryz.prog 18 #[v] w (Tells w (deepI m)):=by
 obtain ⟨h,g,k,_,_⟩:=d.open;have Hb0:=hid (Z1_ w m h g);have j:=hid (d.up Hb0.out);have c:=(Z3_ w m h g).cell;have o:=c 0;have p:=c 1;have q:=c 2;have r:=c 3;have s:=c 4;have u:=c 5;subst k;clear d c;unfold boxed at *
 unfold deepI
 go_enter Tryz.func18,Tryz.ntmps18
 go_wp2_with fail
 refine (Yw6 4 m _ _ 4 rfl k30_ j.out hs).mono ?_;exact z29_
open Go.RowKit
theorem Vx2 {l:List Int} {b:Int} {i:Nat} (hi:i<l.length) (h:outB b (l.getD i 0)=true):l.any (outB b)=true :=
 List.any_eq_true.2 ⟨l[i],List.getElem_mem hi,by simpa [List.getD,hi] using h⟩
theorem Xi0 {l:List Int} {b:Int} (h:∀ i,i<l.length→outB b (l.getD i 0)=false):l.any (outB b)=false:=j7_
theorem Q6_ (h most:Int) (v:Value) (l:List Int) (w:World) (D:Row w w.heap.size v l) :
  Calls Tryz.prog 101 #[v,.int .i64 h,.int .i64 most] w (Says w (numsB l h (most+1))):=by
 obtain ⟨A,c,rfl,hn,o⟩:=D;have z:=hid o;have I:(l.length:Int)≤9223372036854775807:=y34_;clear hn o;unfold numsB;obtain ⟨r,g⟩:∃ r,r=l.any (outB (most+1)):=⟨_,rfl⟩;rw [← g];have d:=hid g;clear g
 go_enter Tryz.func101,Tryz.ntmps101
 go_wp2
 go_loop [7] (fun k=>∃ i:Nat,k=.int .i64 i∧i≤l.length∧∀ j,j<i→outB (most+1) (l.getD j 0)=false) (fun k=>l.length - (intOf k).toNat)
 case atStart=>exact ⟨0,rfl,Nat.zero_le _,fun j q=>absurd q (Nat.not_lt_zero _)⟩
 case round =>
  obtain ⟨i,rfl,hi,u⟩:=hrel;have Hok:=hid u;clear u;by_cases s:i<l.length
  ·obtain ⟨F,hA,G,H⟩:=z.out i s
   subst hA;have m:=hid (Vx2 (b:=most+1) s);have B:Hid (outB (most+1) (l.getD i 0)=false→∀ j,j<i+1→outB (most+1) (l.getD j 0)=false):=by
    intro hb j q;exact y7_
   generalize l.getD i 0=x at *
   have J:(i:Int)<(l.length:Int):=k30_;by_cases y:x<0
   ·have Hr:Hid (r=true):=d.out.trans (m.out (decide_eq_true (.inl y)))
    exact x19_
   ·have K:0≤x:=by omega
    clear y;by_cases E:most<x
    ·have Hr:Hid (r=true):=d.out.trans (m.out (decide_eq_true (.inr k30_)))
     exact x19_
    ·have L:x≤most:=by omega
     have C:Hid (outB (most+1) x=false):=decide_eq_false k30_;clear E;go_wp2
     go_round
     case rel=>exact ⟨i+1,z32_,k30_,B.out C.out⟩
     case measure=>simp [intOf];omega
  ·have p:i=l.length:=by omega
   have Hie:=hid p;have Hr:Hid (r=false):=d.out.trans (Xi0 y38_);obtain rfl:=Hr.out;obtain rfl:=p;by_cases hl:(l.length:Int)=h
   ·have Hl:=hid hl
    rw [decide_eq_true hl];exact z18_
   ·have Hl:=hid hl
    rw [decide_eq_false hl];exact z18_
open Go.RowKit
def Yw7 (n d:Nat):Prop:=∀ x,2≤x→x<d→¬ x ∣ n
theorem Yh5 {n d:Nat} (g:2≤n) (h:Yw7 n d) (hd:n<d * d):Pr n:=by
 refine ⟨g,fun c hc=>?_⟩;obtain ⟨k,e⟩:=hc;have p:c≠0:=by rintro rfl;omega
 have q:k≠0:=by rintro rfl;omega
 by_cases f:c=1
 ·exact .inl f
 ·right
  by_cases m:k=1
  ·rw [e,m,Nat.mul_one]
  ·exfalso
   have j:d≤c:=by
    rcases Nat.lt_or_ge c d with hl | hl
    ·exact absurd ⟨k,e⟩ (h c k30_ hl)
    ·exact hl
   have o:d≤k:=by
    rcases Nat.lt_or_ge k d with hl | hl
    ·exact absurd ⟨c,by rw [e,Nat.mul_comm]⟩ (h k k30_ hl)
    ·exact hl
   have:=Nat.mul_le_mul j o;omega
theorem Yw8 {n d:Nat} (c:2≤d) (hd:d * d≤n) (h:n % d=0):¬ Pr n:=by
 intro f;have:d<n:=by
  have:=Nat.mul_le_mul_left d c;omega
 rcases f.2 d (Nat.dvd_of_mod_eq_zero h) with e | e<;>omega
theorem Zg2 (P:Nat) (w:World) (s:2≤P) (Q:P≤2147483647) :
  Calls Tryz.prog 121 #[.int .i64 P] w fun e w'=>e=.returned (.bool (prB P))∧w'=w:=by
 obtain ⟨b,hb⟩:∃ b,b=prB P:=⟨_,rfl⟩;have E:Pr P→b=true:=fun h=>hb.trans (Xe3 ⟨k30_,k30_,by rw [Int.toNat_natCast];exact h⟩);have z:¬ Pr P→b=false:=fun h=>hb.trans (K7_ fun k=>h (by have:=k.2.2;rwa [Int.toNat_natCast] at this));have H:=hid E;have G:=hid z;rw [← hb];clear hb E z;have L:¬ (P:Int)<2:=k30_;have R:¬ (2147483647:Int)<(P:Int):=k30_
 go_enter Tryz.func121,Tryz.ntmps121
 go_wp2
 go_loopw [3] (fun o wr=>∃ d:Nat,o=.int .i64 d∧2≤d∧d≤46341∧Yw7 P d∧wr=w) (fun o _=>46342 - (intOf o).toNat)
 case atStart=>exact ⟨2,rfl,Nat.le_refl _,z31_,fun x r s=>by omega,rfl⟩
 case round =>
  obtain ⟨d,rfl,I,u,y,rfl⟩:=hrel;have p:=hid y;clear y;have B:wrap64 ((d:Int) * (d:Int))=((d * d:Nat):Int):=by
   have:=Nat.mul_le_mul u u;rw [← Int.natCast_mul];unfold wrap64;omega
  have M:¬ (d:Int)=0:=k30_;have C:=Yr4 P d;by_cases j:d * d≤P
  ·have N:d<46341:=by
    rcases Nat.lt_or_ge d 46341 with h | h
    ·exact h
    ·have:=Nat.mul_le_mul h h
     omega
   obtain ⟨q,c⟩:∃ q,q=d * d:=⟨_,rfl⟩;rw [← c] at B;have J:(q:Int)≤(P:Int):=k30_;by_cases g:P % d=0
   ·have hb:=G.out (Yw8 I j g)
    subst hb;rw [g] at C;clear c j g;exact z3_
   ·obtain ⟨m,v⟩:∃ m,m=P % d:=⟨_,rfl⟩
    rw [← v] at C;have O:¬ (m:Int)=0:=k30_;have F:Hid (Yw7 P (d+1)):=hid (by
     intro x r h3 D;by_cases K:x=d
     ·subst K
      exact g (Nat.mod_eq_zero_of_dvd D)
     ·exact p.out x r k30_ D)
    clear c j g v;go_wp2
    go_roundw
    case rel=>exact ⟨d+1,z32_,k30_,k30_,F.out,trivial⟩
    case measure=>simp [intOf];omega
  ·have hb:=H.out (Yh5 s p.out k30_)
   subst hb;obtain ⟨q,c⟩:∃ q,q=d * d:=⟨_,rfl⟩;rw [← c] at B;have J:¬ (q:Int)≤(P:Int):=k30_;clear c j;exact z3_
theorem Zo1 (p:Int) (w:World):Calls Tryz.prog 121 #[.int .i64 p] w fun e w'=>e=.returned (.bool (prB p))∧w'=w:=by
 by_cases c:p<2
 ·have hf:prB p=false:=K7_ fun h=>by have:=h.1;omega
  exact x27_
 ·by_cases h3:2147483647<p
  ·have hf:prB p=false:=K7_ fun h=>by have:=h.2.1;omega
   exact x27_
  ·obtain ⟨P,rfl⟩:∃ P:Nat,p=P:=⟨p.toNat,k30_⟩
   exact Zg2 P w k30_ k30_
theorem Zo2 (p:Int) (w:World):Calls Tryz.prog 121 #[.int .i64 p] w (Gets w (.bool (prB p))) :=
 (Zo1 p w).mono fun _ _ ⟨c,d⟩=>⟨c,by rw [d];exact Below.refl _ _⟩
theorem E1_ (p:Int) (b:Bool) (h:prB p=b) (w:World):Calls Tryz.prog 121 #[.int .i64 p] w (Gets w (.bool b)):=by
 subst h;exact Zo2 p w
theorem Vx3 {p rows:Int} {cols:List (List Int)} {i:Nat} (hi:i<cols.length) (h:badRow p rows (cols.getD i [])=true):cols.any (badRow p rows)=true :=
 List.any_eq_true.2 ⟨cols[i],List.getElem_mem hi,by simpa [List.getD,hi] using h⟩
theorem Xi1 {p rows:Int} {cols:List (List Int)} (h:∀ i,i<cols.length→badRow p rows (cols.getD i [])=false):cols.any (badRow p rows)=false:=j7_
theorem Vx4 {p rows:Int} {col:List Int} {k:Nat} (c:k<col.length) (h:wrongB p (col.getD k 0)=true):badRow p rows col=true:=by
 unfold badRow;rw [Bool.or_eq_true];exact .inr (List.any_eq_true.2 ⟨col[k],List.getElem_mem c,by simpa [List.getD,c] using h⟩)
theorem Xi2 {p rows:Int} {col:List Int} (hl:(col.length:Int)=rows) (h:∀ k,k<col.length→wrongB p (col.getD k 0)=false):badRow p rows col=false:=by
 unfold badRow;rw [decide_eq_false k30_,Bool.false_or,List.any_eq_false];intro x c;obtain ⟨i,hi,rfl⟩:=List.mem_iff_getElem.1 c;have:=h i hi;simpa [List.getD,hi] using this
theorem Yz9 (p rows:Int) (v:Value) (cols:List (List Int)) (w:World) (hr:Rows2 w w.heap.size v cols) :
  Calls Tryz.prog 103 #[.int .i64 p,.int .i64 rows,v] w (Says w (elimB p rows cols)):=by
 obtain ⟨A,c,rfl,hn,E⟩:=hr;have O:=hid E;have x9:(cols.length:Int)≤9223372036854775807:=y34_;clear hn E;unfold elimB;rcases hp:prB p with _ | _
 ·simp only [Bool.false_and]
  have HP:=hid hp;clear hp
  go_enter Tryz.func103,Tryz.ntmps103
  go_wp2_with fail
  refine (E1_ p false HP.out _).mono ?_;rintro e w1 ⟨rfl,hb1⟩;exact j11_
 ·simp only [Bool.true_and]
  have HP:=hid hp;clear hp;by_cases W:rows<0
  ·exact q28_
  ·have X:0≤rows:=by omega
   clear W;by_cases Y:64<rows
   ·exact q28_
   ·have Z:rows≤64:=by omega
    rw [decide_eq_true (show 0≤rows∧rows≤64 from ⟨X,Z⟩),Bool.true_and];clear Y;by_cases h3:cols.length≤64
    ·rw [decide_eq_true h3,Bool.true_and]
     have x0:(cols.length:Int)≤64:=k30_;obtain ⟨R,rfl⟩:∃ R:Nat,rows=(R:Int):=⟨rows.toNat,k30_⟩;obtain ⟨r,q⟩:∃ r,r=!cols.any (badRow p R):=⟨_,rfl⟩;rw [← q];have h:=hid q;clear q
     go_enter Tryz.func103,Tryz.ntmps103
     go_wp2_with fail
     refine (E1_ p true HP.out _).mono ?_;rintro e w1 ⟨rfl,hb1⟩;have Hb1:=hid hb1;clear hb1;go_wp2
     go_loop [7] (fun s=>∃ i:Nat,s=.int .i64 i∧i≤cols.length∧∀ j,j<i→badRow p R (cols.getD j [])=false) (fun s=>cols.length - (intOf s).toNat)
     case atStart=>exact ⟨0,rfl,Nat.zero_le _,fun j d=>absurd d (Nat.not_lt_zero _)⟩
     case round =>
      obtain ⟨i,rfl,hi,J⟩:=hrel;have Hok:=hid J;clear J;by_cases H:i<cols.length
      ·obtain ⟨V,u,hA,hab,C,x6⟩:=O.out i H
       subst hA;have x3:=(Hb1.out.cell (p:=V.add i) y32_).trans C;obtain ⟨Ac,cc,rfl,_,F⟩:=x6;have o:=hid (Vx3 (p:=p) (rows:=R) H);have Q:Hid (badRow p R (cols.getD i [])=false→∀ j,j<i+1→badRow p R (cols.getD j [])=false):=by
        intro hb j d;exact y7_
       generalize cols.getD i []=col at *
       have P:=hid F;have xa:(i:Int)<(cols.length:Int):=k30_;clear F C;by_cases hl:(col.length:Int)=(R:Int)
       ·have m:col.length=R:=by omega
        have I:((col.length:Int) != (R:Int))=false:=by simp [m]
        have g:=hid m;clear hl;rw [m] at I x3;clear m;go_wp2
        go_loop [8] (fun y=>∃ k:Nat,y=.int .i64 k∧k≤R∧∀ j,j<k→wrongB p (col.getD j 0)=false) (fun y=>R - (intOf y).toNat)
        case atStart=>exact ⟨0,rfl,Nat.zero_le _,fun j d=>absurd d (Nat.not_lt_zero _)⟩
        case round =>
         obtain ⟨k,rfl,hk,M⟩:=hrel;have B:=hid M;clear M;by_cases G:k<R
         ·obtain ⟨U,x1,x2,D⟩:=P.out k (by rw [g.out];exact G)
          subst x1;have x7:=(Hb1.out.cell (p:=U.add k) (by rw [Z2_];exact x2)).trans D;have x8:(k:Int)<(R:Int):=k30_;have z:=hid (Vx4 (p:=p) (rows:=R) (col:=col) (k:=k) (by rw [g.out];exact G));have T:Hid (wrongB p (col.getD k 0)=false→∀ j,j<k+1→wrongB p (col.getD j 0)=false):=by
           intro hb j d;by_cases e:j=k
           ·rw [e];exact hb
           ·exact B.out j k30_
          generalize col.getD k 0=x at *
          clear D;by_cases K:x<0
          ·have Hr:Hid (r=false):=h.out.trans (by rw [o.out (z.out (decide_eq_true (.inl K)))];rfl)
           exact q29_
          ·have xb:0≤x:=by omega
           clear K;by_cases L:p≤x
           ·have Hr:Hid (r=false):=h.out.trans (by rw [o.out (z.out (decide_eq_true (.inr L)))];rfl)
            exact q29_
           ·have xc:x<p:=by omega
            have S:Hid (wrongB p x=false):=decide_eq_false k30_;clear L;go_wp2
            go_round
            case rel=>exact ⟨k+1,z32_,k30_,T.out S.out⟩
            case measure=>simp [intOf];omega
         ·have x5:k=R:=by omega
          subst x5;have N:Hid (badRow p k col=false):=Xi2 (by rw [g.out]) (by rw [g.out];exact B.out);go_wp2
          go_round
          case rel=>exact ⟨i+1,z32_,k30_,Q.out N.out⟩
          case measure=>simp [intOf];omega
       ·have I:((col.length:Int) != (R:Int))=true:=by simpa using hl
        have Hr:Hid (r=false):=h.out.trans (by
         rw [o.out (by unfold badRow;rw [decide_eq_true hl,Bool.true_or])];rfl)
        obtain rfl:=Hr.out;clear hl;exact j1_
      ·have x4:i=cols.length:=by omega
       subst x4;have Hr:Hid (r=true):=h.out.trans (by rw [Xi1 Hok.out];rfl);exact q29_
    ·rw [decide_eq_false h3,Bool.false_and]
     have x0:64<(cols.length:Int):=k30_;clear h3;exact q4_
open Go.RowKit
theorem wpAny_act {P:Program} {d:Region.Mode} {ops:Array Oper} {Q:Exit→Act→World→Prop} {fuel:Nat} {c:Array Bool} {a b:Act} {w:World} (h:a=b) (k:wpAny P d ops Q fuel c b w):wpAny P d ops Q fuel c a w:=h▸k
theorem below_drew (w:World):Below w.heap.size w w.drew:=⟨rfl,rfl,rfl,Nat.le_refl _,fun _ _=>rfl⟩
theorem Zb6 (v:Value) (l:List Int) (b:Bool) (h:mayB l=b) (w:World) (c:Row w w.heap.size v l):Calls Tryz.prog 44 #[v] w (Says w b):=by
 obtain ⟨_,_,_,⟨e,d,_⟩,_⟩:=id c;exact P6_ v l w c (by unfold maxLen at d;omega) h
theorem Yw9 (right:Int) (v:Value) (adj:List (List Int)) (w:World) (U:Rows2 w w.heap.size v adj) :
  Calls Tryz.prog 102 #[.int .i64 right,v] w (Says w (mayM right adj)):=by
 obtain ⟨A,c,rfl,hcap,F⟩:=U;have x2:(adj.length:Int)≤9223372036854775807:=z6_;have O:=hid F;clear F
 go_enter Tryz.func102,Tryz.ntmps102
 go_wp2
 go_loopw [5] (fun s wr=>∃ i:Nat,s=.int .i64 i∧i≤adj.length∧Below w.heap.size w wr∧∀ j,j<i→okA right (adj.getD j [])=true) (fun s _=>adj.length - (intOf s).toNat)
 case atStart=>exact ⟨0,rfl,Nat.zero_le _,Below.refl _ _,fun j I=>absurd I (Nat.not_lt_zero _)⟩
 case round =>
  obtain ⟨i,rfl,hi,E,L⟩:=hrel;have Hbr:=hid E;have Hok:=hid L;clear E L;by_cases J:i<adj.length
  ·have x4:(i:Int)<(adj.length:Int):=by omega
   obtain ⟨C,u,hA,hab,o,M⟩:=O.out i J;subst hA;have g:=(Hbr.out.cell (p:=C.add i) y32_).trans o;have B:=hid ((M.below Hbr.out).mono Hbr.out.size);have z:=hid (fun h=>mayM_miss (right:=right) J h);have Hnext:Hid (okA right (adj.getD i [])=true→∀ j,j<i+1→okA right (adj.getD j [])=true):=hid fun h j I=>y10_;clear Hok;generalize adj.getD i []=l at *
   obtain ⟨X,cu,rfl,H,G⟩:=M;have x3:(l.length:Int)≤9223372036854775807:=by
    have h1:=H.1;have h2:=H.2.1;unfold maxLen at h2;omega
   have P:=hid G;have Q:=hid o;clear G o;go_wp2;refine wp_region_any q31_ ?_;change wpAny _ _ _ _ _ _ _ (World.drew _);refine wpAny_take (i:=0) (v:=?_) rfl q31_ q31_ q31_ (fun _ _ _ h=>h) (Or.inl ⟨k32_,?_⟩) ?_;rotate_left
   ·exact q1_
   (refine wpAny_act (b:=?_) ?_ ?_;rotate_left;(go_simp;with_reducible rfl))
   refine wpAny_take (i:=1) (v:=?_) rfl q31_ q31_ q31_ (fun _ _ _ h=>h) (Or.inl ⟨k32_,?_⟩) ?_;rotate_left
   ·exact q1_
   (refine wpAny_act (b:=?_) ?_ ?_;rotate_left;(go_simp;with_reducible rfl))
   refine wpAny_take (i:=2) (v:=?_) rfl q31_ q31_ q31_ (fun _ _ _ h=>h) (Or.inl ⟨k32_,?_⟩) ?_;rotate_left
   ·exact q1_
   (refine wpAny_act (b:=?_) ?_ ?_;rotate_left;(go_simp;with_reducible rfl))
   refine wpAny_ready (rs:=[3]) q31_ y31_ ?_;refine AllReady.cons rfl (fun K hK=>?_) AllReady.nil;go_simp;refine hK _ _ ?_;clear hK K;rcases hm:mayB l with _ | _
   ·have d:=hid hm
    clear hm;refine wpAny_ready (rs:=[4]) q31_ y31_ ?_;refine AllReady.cons rfl (fun K hK=>?_) AllReady.nil;go_simp;refine (Zb6 _ l false d.out _ (B.out.up (below_drew wr))).mono ?_;rintro e W ⟨rfl,k⟩;refine hK _ _ ?_;clear hK K;have Hb1:=hid (Hbr.out.drew.trans (k.mono (by have:=Hbr.out.size;simpa using this)));clear k g;have Hno:=hid (z.out (Xx8 d.out));refine wpAny_take (i:=5) (v:=?_) rfl q31_ q31_ q31_ (fun _ _ _ h=>h) (Or.inl ⟨k32_,?_⟩) ?_;rotate_left
    ·exact q1_
    (refine wpAny_act (b:=?_) ?_ ?_;rotate_left;(go_simp;with_reducible rfl))
    refine wpAny_take (i:=6) (v:=?_) rfl q31_ q31_ q31_ (fun _ _ _ h=>h) (Or.inl ⟨k32_,?_⟩) ?_;rotate_left
    ·exact q1_
    (refine wpAny_act (b:=?_) ?_ ?_;rotate_left;(go_simp;with_reducible rfl))
    refine wpAny_take (i:=7) (v:=undef) rfl q31_ q31_ q31_ (fun _ _ _ h=>h) (Or.inr ⟨x31_,rfl⟩) ?_
    (refine wpAny_act (b:=?_) ?_ ?_;rotate_left;(go_simp;with_reducible rfl))
    refine wpAny_take (i:=8) (v:=undef) rfl q31_ q31_ q31_ (fun _ _ _ h=>h) (Or.inr ⟨x31_,rfl⟩) ?_
    (refine wpAny_act (b:=?_) ?_ ?_;rotate_left;(go_simp;with_reducible rfl))
    refine wpAny_take (i:=9) (v:=undef) rfl q31_ q31_ q31_ (fun _ _ _ h=>h) (Or.inr ⟨x31_,rfl⟩) ?_
    (refine wpAny_act (b:=?_) ?_ ?_;rotate_left;(go_simp;with_reducible rfl))
    refine wpAny_take (i:=10) (v:=undef) rfl q31_ q31_ q31_ (fun _ _ _ h=>h) (Or.inr ⟨x31_,rfl⟩) ?_
    (refine wpAny_act (b:=?_) ?_ ?_;rotate_left;(go_simp;with_reducible rfl))
    refine wpAny_take (i:=11) (v:=undef) rfl q31_ q31_ q31_ (fun _ _ _ h=>h) (Or.inr ⟨x31_,rfl⟩) ?_
    (refine wpAny_act (b:=?_) ?_ ?_;rotate_left;(go_simp;with_reducible rfl))
    refine wpAny_take (i:=12) (v:=undef) rfl q31_ q31_ q31_ (fun _ _ _ h=>h) (Or.inr ⟨x31_,rfl⟩) ?_
    (refine wpAny_act (b:=?_) ?_ ?_;rotate_left;(go_simp;with_reducible rfl))
    refine wpAny_take (i:=13) (v:=undef) rfl q31_ q31_ q31_ (fun _ _ _ h=>h) (Or.inr ⟨x31_,rfl⟩) ?_
    (refine wpAny_act (b:=?_) ?_ ?_;rotate_left;(go_simp;with_reducible rfl))
    refine wpAny_take (i:=14) (v:=undef) rfl q31_ q31_ q31_ (fun _ _ _ h=>h) (Or.inr ⟨x31_,rfl⟩) ?_
    (refine wpAny_act (b:=?_) ?_ ?_;rotate_left;(go_simp;with_reducible rfl))
    refine wpAny_take (i:=15) (v:=undef) rfl q31_ q31_ q31_ (fun _ _ _ h=>h) (Or.inr ⟨x31_,rfl⟩) ?_
    (refine wpAny_act (b:=?_) ?_ ?_;rotate_left;(go_simp;with_reducible rfl))
    refine wpAny_take (i:=16) (v:=undef) rfl q31_ q31_ q31_ (fun _ _ _ h=>h) (Or.inr ⟨x31_,rfl⟩) ?_
    (refine wpAny_act (b:=?_) ?_ ?_;rotate_left;(go_simp;with_reducible rfl))
    refine wpAny_take (i:=17) (v:=undef) rfl q31_ q31_ q31_ (fun _ _ _ h=>h) (Or.inr ⟨x31_,rfl⟩) ?_
    (refine wpAny_act (b:=?_) ?_ ?_;rotate_left;(go_simp;with_reducible rfl))
    refine wpAny_take (i:=18) (v:=undef) rfl q31_ q31_ q31_ (fun _ _ _ h=>h) (Or.inr ⟨x31_,rfl⟩) ?_
    (refine wpAny_act (b:=?_) ?_ ?_;rotate_left;(go_simp;with_reducible rfl))
    refine wpAny_take (i:=19) (v:=undef) rfl q31_ q31_ q31_ (fun _ _ _ h=>h) (Or.inr ⟨x31_,rfl⟩) ?_
    (refine wpAny_act (b:=?_) ?_ ?_;rotate_left;(go_simp;with_reducible rfl))
    refine wpAny_take (i:=20) (v:=undef) rfl q31_ q31_ q31_ (fun _ _ _ h=>h) (Or.inr ⟨x31_,rfl⟩) ?_
    (refine wpAny_act (b:=?_) ?_ ?_;rotate_left;(go_simp;with_reducible rfl))
    refine wpAny_take (i:=21) (v:=undef) rfl q31_ q31_ q31_ (fun _ _ _ h=>h) (Or.inr ⟨x31_,rfl⟩) ?_
    (refine wpAny_act (b:=?_) ?_ ?_;rotate_left;(go_simp;with_reducible rfl))
    refine wpAny_take (i:=22) (v:=undef) rfl q31_ q31_ q31_ (fun _ _ _ h=>h) (Or.inr ⟨x31_,rfl⟩) ?_
    (refine wpAny_act (b:=?_) ?_ ?_;rotate_left;(go_simp;with_reducible rfl))
    refine wpAny_take (i:=23) (v:=undef) rfl q31_ q31_ q31_ (fun _ _ _ h=>h) (Or.inr ⟨x31_,rfl⟩) ?_
    (refine wpAny_act (b:=?_) ?_ ?_;rotate_left;(go_simp;with_reducible rfl))
    refine wpAny_take (i:=24) (v:=undef) rfl q31_ q31_ q31_ (fun _ _ _ h=>h) (Or.inr ⟨x31_,rfl⟩) ?_
    (refine wpAny_act (b:=?_) ?_ ?_;rotate_left;(go_simp;with_reducible rfl))
    refine wpAny_take (i:=25) (v:=undef) rfl q31_ q31_ q31_ (fun _ _ _ h=>h) (Or.inr ⟨x31_,rfl⟩) ?_
    (refine wpAny_act (b:=?_) ?_ ?_;rotate_left;(go_simp;with_reducible rfl))
    refine wpAny_take (i:=26) (v:=undef) rfl q31_ q31_ q31_ (fun _ _ _ h=>h) (Or.inr ⟨x31_,rfl⟩) ?_
    (refine wpAny_act (b:=?_) ?_ ?_;rotate_left;(go_simp;with_reducible rfl))
    refine wpAny_take (i:=27) (v:=undef) rfl q31_ q31_ q31_ (fun _ _ _ h=>h) (Or.inr ⟨x31_,rfl⟩) ?_
    (refine wpAny_act (b:=?_) ?_ ?_;rotate_left;(go_simp;with_reducible rfl))
    refine wpAny_take (i:=28) (v:=undef) rfl q31_ q31_ q31_ (fun _ _ _ h=>h) (Or.inr ⟨x31_,rfl⟩) ?_
    (refine wpAny_act (b:=?_) ?_ ?_;rotate_left;(go_simp;with_reducible rfl))
    refine wpAny_take (i:=29) (v:=?_) rfl q31_ q31_ q31_ (fun _ _ _ h=>h) (Or.inl ⟨k32_,?_⟩) ?_;rotate_left
    ·exact q1_
    (refine wpAny_act (b:=?_) ?_ ?_;rotate_left;(go_simp;with_reducible rfl))
    refine wpAny_done q31_ ?_ _;exact y6_
   ·have d:=hid hm
    clear hm;refine wpAny_ready (rs:=[4]) q31_ y31_ ?_;refine AllReady.cons rfl (fun K hK=>?_) AllReady.nil;go_simp;refine (Zb6 _ l true d.out _ (B.out.up (below_drew wr))).mono ?_;rintro e W ⟨rfl,k⟩;refine hK _ _ ?_;clear hK K;have Hb1:=hid (Hbr.out.drew.trans (k.mono (by have:=Hbr.out.size;simpa using this)));clear k g;have g:=(Hb1.out.cell (p:=C.add i) y32_).trans Q.out;refine wpAny_take (i:=5) (v:=?_) rfl q31_ q31_ q31_ (fun _ _ _ h=>h) (Or.inl ⟨k32_,?_⟩) ?_;rotate_left
    ·exact q1_
    (refine wpAny_act (b:=?_) ?_ ?_;rotate_left;(go_simp;with_reducible rfl))
    refine wpAny_take (i:=6) (v:=?_) rfl q31_ q31_ q31_ (fun _ _ _ h=>h) (Or.inl ⟨k32_,?_⟩) ?_;rotate_left
    ·exact q1_
    (refine wpAny_act (b:=?_) ?_ ?_;rotate_left;(go_simp;with_reducible rfl))
    refine wpAny_take (i:=7) (v:=?_) rfl q31_ q31_ q31_ (fun _ _ _ h=>h) (Or.inl ⟨k32_,?_⟩) ?_;rotate_left
    ·exact q1_
    (refine wpAny_act (b:=?_) ?_ ?_;rotate_left;(go_simp;with_reducible rfl))
    refine wpAny_take (i:=8) (v:=?_) rfl q31_ q31_ q31_ (fun _ _ _ h=>h) (Or.inl ⟨k32_,?_⟩) ?_;rotate_left
    ·exact q1_
    (refine wpAny_act (b:=?_) ?_ ?_;rotate_left;(go_simp;with_reducible rfl))
    refine wpAny_take (i:=9) (v:=?_) rfl q31_ q31_ q31_ (fun _ _ _ h=>h) (Or.inl ⟨k32_,?_⟩) ?_;rotate_left
    ·exact q1_
    (refine wpAny_act (b:=?_) ?_ ?_;rotate_left;(go_simp;with_reducible rfl))
    refine wpAny_ready (rs:=[10]) q31_ y31_ ?_;refine AllReady.cons rfl (fun K hK=>?_) AllReady.nil;go_simp;refine hK _ _ ?_;clear hK K;by_cases m:l.length=0
    ·have Hok1:=hid (Zg5 (right:=right) d.out m)
     have Y:Hid ((l.length:Int)=0):=hid k30_;rw [m];refine wpAny_take (i:=11) (v:=?_) rfl q31_ q31_ q31_ (fun _ _ _ h=>h) (Or.inl ⟨k32_,?_⟩) ?_;rotate_left
     ·exact q1_
     (refine wpAny_act (b:=?_) ?_ ?_;rotate_left;(go_simp;with_reducible rfl))
     refine wpAny_take (i:=12) (v:=?_) rfl q31_ q31_ q31_ (fun _ _ _ h=>h) (Or.inl ⟨k32_,?_⟩) ?_;rotate_left
     ·exact q1_
     (refine wpAny_act (b:=?_) ?_ ?_;rotate_left;(go_simp;with_reducible rfl))
     refine wpAny_take (i:=13) (v:=?_) rfl q31_ q31_ q31_ (fun _ _ _ h=>h) (Or.inl ⟨k32_,?_⟩) ?_;rotate_left
     ·exact q1_
     (refine wpAny_act (b:=?_) ?_ ?_;rotate_left;(go_simp;with_reducible rfl))
     refine wpAny_take (i:=14) (v:=undef) rfl q31_ q31_ q31_ (fun _ _ _ h=>h) (Or.inr ⟨x31_,rfl⟩) ?_
     (refine wpAny_act (b:=?_) ?_ ?_;rotate_left;(go_simp;with_reducible rfl))
     refine wpAny_take (i:=15) (v:=undef) rfl q31_ q31_ q31_ (fun _ _ _ h=>h) (Or.inr ⟨x31_,rfl⟩) ?_
     (refine wpAny_act (b:=?_) ?_ ?_;rotate_left;(go_simp;with_reducible rfl))
     refine wpAny_take (i:=16) (v:=undef) rfl q31_ q31_ q31_ (fun _ _ _ h=>h) (Or.inr ⟨x31_,rfl⟩) ?_
     (refine wpAny_act (b:=?_) ?_ ?_;rotate_left;(go_simp;with_reducible rfl))
     refine wpAny_take (i:=17) (v:=undef) rfl q31_ q31_ q31_ (fun _ _ _ h=>h) (Or.inr ⟨x31_,rfl⟩) ?_
     (refine wpAny_act (b:=?_) ?_ ?_;rotate_left;(go_simp;with_reducible rfl))
     refine wpAny_take (i:=18) (v:=undef) rfl q31_ q31_ q31_ (fun _ _ _ h=>h) (Or.inr ⟨x31_,rfl⟩) ?_
     (refine wpAny_act (b:=?_) ?_ ?_;rotate_left;(go_simp;with_reducible rfl))
     refine wpAny_take (i:=19) (v:=undef) rfl q31_ q31_ q31_ (fun _ _ _ h=>h) (Or.inr ⟨x31_,rfl⟩) ?_
     (refine wpAny_act (b:=?_) ?_ ?_;rotate_left;(go_simp;with_reducible rfl))
     refine wpAny_take (i:=20) (v:=undef) rfl q31_ q31_ q31_ (fun _ _ _ h=>h) (Or.inr ⟨x31_,rfl⟩) ?_
     (refine wpAny_act (b:=?_) ?_ ?_;rotate_left;(go_simp;with_reducible rfl))
     refine wpAny_take (i:=21) (v:=undef) rfl q31_ q31_ q31_ (fun _ _ _ h=>h) (Or.inr ⟨x31_,rfl⟩) ?_
     (refine wpAny_act (b:=?_) ?_ ?_;rotate_left;(go_simp;with_reducible rfl))
     refine wpAny_take (i:=22) (v:=undef) rfl q31_ q31_ q31_ (fun _ _ _ h=>h) (Or.inr ⟨x31_,rfl⟩) ?_
     (refine wpAny_act (b:=?_) ?_ ?_;rotate_left;(go_simp;with_reducible rfl))
     refine wpAny_take (i:=23) (v:=undef) rfl q31_ q31_ q31_ (fun _ _ _ h=>h) (Or.inr ⟨x31_,rfl⟩) ?_
     (refine wpAny_act (b:=?_) ?_ ?_;rotate_left;(go_simp;with_reducible rfl))
     refine wpAny_take (i:=24) (v:=undef) rfl q31_ q31_ q31_ (fun _ _ _ h=>h) (Or.inr ⟨x31_,rfl⟩) ?_
     (refine wpAny_act (b:=?_) ?_ ?_;rotate_left;(go_simp;with_reducible rfl))
     refine wpAny_take (i:=25) (v:=undef) rfl q31_ q31_ q31_ (fun _ _ _ h=>h) (Or.inr ⟨x31_,rfl⟩) ?_
     (refine wpAny_act (b:=?_) ?_ ?_;rotate_left;(go_simp;with_reducible rfl))
     refine wpAny_take (i:=26) (v:=undef) rfl q31_ q31_ q31_ (fun _ _ _ h=>h) (Or.inr ⟨x31_,rfl⟩) ?_
     (refine wpAny_act (b:=?_) ?_ ?_;rotate_left;(go_simp;with_reducible rfl))
     refine wpAny_take (i:=27) (v:=undef) rfl q31_ q31_ q31_ (fun _ _ _ h=>h) (Or.inr ⟨x31_,rfl⟩) ?_
     (refine wpAny_act (b:=?_) ?_ ?_;rotate_left;(go_simp;with_reducible rfl))
     refine wpAny_take (i:=28) (v:=?_) rfl q31_ q31_ q31_ (fun _ _ _ h=>h) (Or.inl ⟨k32_,?_⟩) ?_;rotate_left
     ·exact q1_
     (refine wpAny_act (b:=?_) ?_ ?_;rotate_left;(go_simp;with_reducible rfl))
     refine wpAny_take (i:=29) (v:=?_) rfl q31_ q31_ q31_ (fun _ _ _ h=>h) (Or.inl ⟨k32_,?_⟩) ?_;rotate_left
     ·exact q1_
     (refine wpAny_act (b:=?_) ?_ ?_;rotate_left;(go_simp;with_reducible rfl))
     refine wpAny_done q31_ ?_ _;clear m g;exact y4_
    ·obtain ⟨x,r⟩:∃ x,l.getD (l.length - 1) 0=x:=⟨_,rfl⟩
     obtain ⟨al,S,halb,q⟩:=P.out (l.length - 1) k30_;have y:=hid (W6_ (right:=right) d.out k30_ r);rw [r] at q;subst S;have x0:0<l.length:=k30_;have x1:(1:Int)≤(l.length:Int):=k30_;have x5:IntKind.i64.wrap ((l.length:Int) - 1)=(l.length:Int) - 1:=k31_;have x6:(0:Int)≤(l.length:Int) - 1:=k30_;have x7:(l.length:Int) - 1<(l.length:Int):=k30_;have x8:((l.length:Int) - 1).toNat=l.length - 1:=k30_;have D:=(Hb1.out.cell (p:=al.add (l.length - 1)) j34_).trans q;clear r q m;refine wpAny_take (i:=11) (v:=?_) rfl q31_ q31_ q31_ (fun _ _ _ h=>h) (Or.inl ⟨k32_,?_⟩) ?_;rotate_left
     ·exact q1_
     (refine wpAny_act (b:=?_) ?_ ?_;rotate_left;(go_simp;with_reducible rfl))
     refine wpAny_take (i:=12) (v:=?_) rfl q31_ q31_ q31_ (fun _ _ _ h=>h) (Or.inl ⟨k32_,?_⟩) ?_;rotate_left
     ·exact q1_
     (refine wpAny_act (b:=?_) ?_ ?_;rotate_left;(go_simp;with_reducible rfl))
     refine wpAny_take (i:=13) (v:=?_) rfl q31_ q31_ q31_ (fun _ _ _ h=>h) (Or.inl ⟨k32_,?_⟩) ?_;rotate_left
     ·exact q1_
     (refine wpAny_act (b:=?_) ?_ ?_;rotate_left;(go_simp;with_reducible rfl))
     refine wpAny_take (i:=14) (v:=?_) rfl q31_ q31_ q31_ (fun _ _ _ h=>h) (Or.inl ⟨k32_,?_⟩) ?_;rotate_left
     ·exact q1_
     (refine wpAny_act (b:=?_) ?_ ?_;rotate_left;(go_simp;with_reducible rfl))
     refine wpAny_take (i:=15) (v:=?_) rfl q31_ q31_ q31_ (fun _ _ _ h=>h) (Or.inl ⟨k32_,?_⟩) ?_;rotate_left
     ·exact q1_
     (refine wpAny_act (b:=?_) ?_ ?_;rotate_left;(go_simp;with_reducible rfl))
     refine wpAny_take (i:=16) (v:=?_) rfl q31_ q31_ q31_ (fun _ _ _ h=>h) (Or.inl ⟨k32_,?_⟩) ?_;rotate_left
     ·exact q1_
     (refine wpAny_act (b:=?_) ?_ ?_;rotate_left;(go_simp;with_reducible rfl))
     refine wpAny_take (i:=18) (v:=?_) rfl q31_ q31_ q31_ (fun _ _ _ h=>h) (Or.inl ⟨k32_,?_⟩) ?_;rotate_left
     ·exact q1_
     (refine wpAny_act (b:=?_) ?_ ?_;rotate_left;(go_simp;with_reducible rfl))
     refine wpAny_take (i:=19) (v:=?_) rfl q31_ q31_ q31_ (fun _ _ _ h=>h) (Or.inl ⟨k32_,?_⟩) ?_;rotate_left
     ·exact q1_
     (refine wpAny_act (b:=?_) ?_ ?_;rotate_left;(go_simp;with_reducible rfl))
     refine wpAny_take (i:=20) (v:=?_) rfl q31_ q31_ q31_ (fun _ _ _ h=>h) (Or.inl ⟨k32_,?_⟩) ?_;rotate_left
     ·exact q1_
     (refine wpAny_act (b:=?_) ?_ ?_;rotate_left;(go_simp;with_reducible rfl))
     refine wpAny_take (i:=26) (v:=?_) rfl q31_ q31_ q31_ (fun _ _ _ h=>h) (Or.inl ⟨k32_,?_⟩) ?_;rotate_left
     ·exact q1_
     (refine wpAny_act (b:=?_) ?_ ?_;rotate_left;(go_simp;with_reducible rfl))
     refine wpAny_ready (rs:=[17,21]) q31_ y31_ ?_;refine AllReady.cons rfl (fun K hK=>?_) (AllReady.cons rfl (fun K hK=>?_) AllReady.nil);go_simp;refine hK _ _ ?_;clear hK K;refine wpAny_ready (rs:=[21]) q31_ y31_ ?_;refine AllReady.cons rfl (fun K hK=>?_) AllReady.nil;go_simp;refine hK _ _ ?_;clear hK K;refine wpAny_take (i:=22) (v:=?_) rfl q31_ q31_ q31_ (fun _ _ _ h=>h) (Or.inl ⟨k32_,?_⟩) ?_;rotate_left
     ·exact q1_
     (refine wpAny_act (b:=?_) ?_ ?_;rotate_left;(go_simp;with_reducible rfl))
     refine wpAny_take (i:=23) (v:=?_) rfl q31_ q31_ q31_ (fun _ _ _ h=>h) (Or.inl ⟨k32_,?_⟩) ?_;rotate_left
     ·exact q1_
     (refine wpAny_act (b:=?_) ?_ ?_;rotate_left;(go_simp;with_reducible rfl))
     rotate_left;go_simp;refine hK _ _ ?_;clear hK K;refine wpAny_take (i:=22) (v:=?_) rfl q31_ q31_ q31_ (fun _ _ _ h=>h) (Or.inl ⟨k32_,?_⟩) ?_;rotate_left
     ·exact q1_
     (refine wpAny_act (b:=?_) ?_ ?_;rotate_left;(go_simp;with_reducible rfl))
     refine wpAny_take (i:=23) (v:=?_) rfl q31_ q31_ q31_ (fun _ _ _ h=>h) (Or.inl ⟨k32_,?_⟩) ?_;rotate_left
     ·exact q1_
     (refine wpAny_act (b:=?_) ?_ ?_;rotate_left;(go_simp;with_reducible rfl))
     refine wpAny_ready (rs:=[17]) q31_ y31_ ?_;refine AllReady.cons rfl (fun K hK=>?_) AllReady.nil;go_simp;refine hK _ _ ?_;clear hK K
     all_goals
      refine wpAny_take (i:=24) (v:=?_) rfl q31_ q31_ q31_ (fun _ _ _ h=>h) (Or.inl ⟨k32_,?_⟩) ?_;rotate_left
      ·exact q1_
      (refine wpAny_act (b:=?_) ?_ ?_;rotate_left;(go_simp;with_reducible rfl))
      refine wpAny_ready (rs:=[25]) q31_ y31_ ?_;refine AllReady.cons rfl (fun K hK=>?_) AllReady.nil;go_simp;refine hK _ _ ?_;clear hK K;by_cases N:x<right
      ·have V:¬ right≤x:=by omega
       have Hok1:Hid (okA right l=true):=hid (y.out.trans (decide_eq_true N));refine wpAny_take (i:=27) (v:=?_) rfl q31_ q31_ q31_ (fun _ _ _ h=>h) (Or.inl ⟨k32_,?_⟩) ?_;rotate_left
       ·exact q1_
       (refine wpAny_act (b:=?_) ?_ ?_;rotate_left;(go_simp;with_reducible rfl))
       refine wpAny_take (i:=28) (v:=?_) rfl q31_ q31_ q31_ (fun _ _ _ h=>h) (Or.inl ⟨k32_,?_⟩) ?_;rotate_left
       ·exact q1_
       (refine wpAny_act (b:=?_) ?_ ?_;rotate_left;(go_simp;with_reducible rfl))
       refine wpAny_take (i:=29) (v:=?_) rfl q31_ q31_ q31_ (fun _ _ _ h=>h) (Or.inl ⟨k32_,?_⟩) ?_;rotate_left
       ·exact q1_
       (refine wpAny_act (b:=?_) ?_ ?_;rotate_left;(go_simp;with_reducible rfl))
       refine wpAny_done q31_ ?_ _;clear g D;exact y4_
      ·have V:right≤x:=by omega
       have Hno:=hid (z.out (y.out.trans (decide_eq_false N)));refine wpAny_take (i:=27) (v:=?_) rfl q31_ q31_ q31_ (fun _ _ _ h=>h) (Or.inl ⟨k32_,?_⟩) ?_;rotate_left
       ·exact q1_
       (refine wpAny_act (b:=?_) ?_ ?_;rotate_left;(go_simp;with_reducible rfl))
       refine wpAny_take (i:=28) (v:=?_) rfl q31_ q31_ q31_ (fun _ _ _ h=>h) (Or.inl ⟨k32_,?_⟩) ?_;rotate_left
       ·exact q1_
       (refine wpAny_act (b:=?_) ?_ ?_;rotate_left;(go_simp;with_reducible rfl))
       refine wpAny_take (i:=29) (v:=?_) rfl q31_ q31_ q31_ (fun _ _ _ h=>h) (Or.inl ⟨k32_,?_⟩) ?_;rotate_left
       ·exact q1_
       (refine wpAny_act (b:=?_) ?_ ?_;rotate_left;(go_simp;with_reducible rfl))
       refine wpAny_done q31_ ?_ _;clear g D;exact y6_
  ·have T:i=adj.length:=by omega
   subst T;by_cases Z:0≤right
   ·by_cases b2:right≤64
    ·by_cases b3:(adj.length:Int)≤64
     ·have R:=hid (mayM_all (adj:=adj) k30_ k30_ k30_ Hok.out)
      go_wp2;go_ret;exact ⟨congrArg (fun b=>Ending.returned (.bool b)) R.out.symm,Hbr.out⟩
     ·have Hno:=hid (mayM_off (right:=right) (adj:=adj) (.inr (.inr k30_)))
      exact q10_
    ·have Hno:=hid (mayM_off (right:=right) (adj:=adj) (.inr (.inl k30_)))
     exact q10_
   ·have Hno:=hid (mayM_off (right:=right) (adj:=adj) (.inl k30_))
    exact q10_
end Wp
end Go.Proofs.YtgpljiijjnaofaaGreatDoor
