/- The document's deep, numbers, prime, columns' May and sides' May, walked. -/
import Derived.Test.YtigobiacbficaaaGreatDoorZO
import Derived.Test.YtigobiacbficaaaGreatDoorZE
import Derived.Test.YtigobiacbficaaaGreatDoorZM
import Derived.Test.YtigobiacbficaaaGreatDoorZA
import Derived.Test.YtigobiacbficaaaGreatDoorX0A
import Derived.Test.YtigobiacbficaaaGreatDoorX0B
set_option maxHeartbeats 4000000
set_option maxRecDepth 100000
open Go.Lib (hid)
namespace Go.Proofs.YtigobiacbficaaaGreatDoor.Wp
open Go.RowKit
theorem X2_ (t:Int) (w:World):Calls Tryz.prog 42 #[.int .i64 t] w (Says w (decide (nest t))):=by
 by_cases c:t<5
 ·rw [show decide (nest t)=false from decide_eq_false (by unfold nest;omega)]
  exact k36_
 ·have d:5≤t:=by omega
  rw [show decide (nest t)=decide (t≤9) from decide_eq_decide.2 ⟨fun h=>h.2,fun h=>⟨d,h⟩⟩];clear c;exact k36_
theorem Xl7:∀ (k:Nat) (m:Mat) (v:Value) (w:World) (left:Int),left=(k:Int)→k≤10→MatV w w.heap.size v m→Sml m→Calls Tryz.prog 26 #[v,.int .i64 left] w (Tells w (dp k m)):=by
 intro k
 induction k with
 | zero =>
  intro m v w left E _ H hs;obtain ⟨h,iv,rfl,hl,x⟩:=H.open;obtain ⟨A,c,rfl,V,y⟩:=x;have Y:=Zj7 hs;have Z:(m.i.length:Int)≤1000:=y40_;have Hb0:=hid (Z1_ w m h (.slice A m.i.length c));have g:=Z4_ w m h (.slice A m.i.length c);have r:=g.cell 0;have s:=g.cell 5;subst E;clear g y hl;unfold boxed at *
  by_cases h3:(0:Int)<(m.i.length:Int)
  ·exact j31_
  ·exact j31_
 | succ k ih =>
  intro m v w left E xa H hs;obtain ⟨h,iv,rfl,hl,x⟩:=H.open;obtain ⟨A,c,rfl,V,y⟩:=x;have K:=hid y;have T:=hid hs;have L:=hid ih;have Y:=Zj7 hs;have Z:(m.i.length:Int)≤1000:=y40_;have Hb0:=hid (Z1_ w m h (.slice A m.i.length c));have z:=hid (Z4_ w m h (.slice A m.i.length c));have r:=z.out.cell 0;have s:=z.out.cell 5;have xe:(k:Int)+1=left:=y40_;have xd:0<left:=y40_;have xb:(k:Int)≤10:=y40_;have xf:IntKind.i64.wrap (left - 1)=(k:Int):=y41_;clear y hl E ih hs;unfold boxed at *
  by_cases p:nest m.t
  ·have hd:Hid (dp (k+1) m=1+maxN (m.i.map (dp k))):=by
    show dp (k+1) m=_;rw [dp,if_pos p]
   have C:=hid p;clear p r s
   go_enter Tryz.func26,Tryz.ntmps26
   go_wp2
   go_loopw [5,6] (fun vd I wr=>∃ (d i:Nat),vd=.int .i64 d∧I=.int .i64 i∧i≤m.i.length∧d=Wp.most k i m.i∧Blk wr w.heap.size 25 #[.int .i64 m.t,.int .i64 m.n,.int .i64 m.a,.int .i64 m.b,h,.slice A m.i.length c]∧Below w.heap.size w wr) (fun _ I _=>m.i.length - (intOf I).toNat)
   case atStart=>exact ⟨0,0,rfl,rfl,Nat.zero_le _,by rw [Ze4],z.out,Hb0.out⟩
   case round =>
    obtain ⟨d,i,rfl,rfl,x,O,g,N⟩:=hrel;have Hbr:=hid N;have B:=hid g;have s:=g.cell 5;have r:=g.cell 0;have W:=Yi4 k i m.i;have x9:(d:Int)≤(k:Int)+1:=y40_;have Hdm:=hid O;clear N g O;by_cases F:i<m.i.length
    ·have xc:(i:Int)<(m.i.length:Int):=by omega
     have o:=hid (X2_ m.t wr);rw [decide_eq_true C.out] at o
     go_wp2_with fail
     refine (o.out).mono ?_;rintro e S ⟨rfl,q⟩;have j:=hid (Z0_ Hbr.out (Nat.le_refl _) q);have Hblk2:=hid (B.out.below q B.out.lt);have x7:=Hblk2.out.cell 5;obtain ⟨ad,u,U,hab,R,P⟩:=K.out i F;subst U;have x6:=R.below j.out x42_;have Q:=(P.bel j.out).mono j.out.size;have J:=hid (L.out (m.i.getD i default) u S (k:Int) rfl y40_ Q (sml_i T.out (Y4_ _ _ _ F)));have G:=Ze6 k i m.i F;have X:=dp_le k (m.i.getD i default);obtain ⟨x0,x1,x2,x3,x4,x5,rfl,s0,s1,s2,s3,s4,s5⟩:=x6;obtain ⟨D,M⟩:∃ D,dp k (m.i.getD i default)=D:=⟨_,rfl⟩;rw [M] at J G X;have x8:(D:Int)≤(k:Int)+1:=y40_;have Hms:=hid G;clear R P Q K L M G W s r q o B
     go_wp2_with fail
     refine (J.out).mono ?_;rintro e w1 ⟨rfl,hb1⟩;have Hb1:=hid (Z0_ j.out (Nat.le_refl _) hb1);exact x8_
    ·exact y12_
  ·have hd:Hid (dp (k+1) m=1):=by
    show dp (k+1) m=1;rw [dp,if_neg p]
   have C:=hid p;clear p;by_cases h3:(0:Int)<(m.i.length:Int)
   ·go_enter Tryz.func26,Tryz.ntmps26
    go_wp2;refine wp_loop_rounds 1 ?_;rw [rounds_succ]
    go_wp2_with fail
    have o:=hid (X2_ m.t (w.alloc (.cells #[.int .i64 m.t,.int .i64 m.n,.int .i64 m.a,.int .i64 m.b,h,.slice A m.i.length c] 25)));rw [decide_eq_false C.out] at o;refine (o.out).mono ?_;rintro e S ⟨rfl,q⟩;have j:=hid (Z0_ Hb0.out (Nat.le_refl _) q);go_wp2;go_ret;exact ⟨by rw [hd.out];rfl,j.out⟩
   ·exact x12_
theorem Yq5 (m:Mat) (v:Value) (w:World) (d:MatV w w.heap.size v m) (hs:Sml m):Calls Tryz.prog 12 #[v] w (Tells w (deepI m)):=by
 obtain ⟨h,g,k,_,_⟩:=d.open;have Hb0:=hid (Z1_ w m h g);have j:=hid (d.up Hb0.out);have c:=(Z4_ w m h g).cell;have o:=c 0;have p:=c 1;have q:=c 2;have r:=c 3;have s:=c 4;have u:=c 5;subst k;clear d c;unfold boxed at *
 unfold deepI
 go_enter Tryz.func12,Tryz.ntmps12
 go_wp2_with fail
 refine (Xl7 4 m _ _ 4 rfl y40_ j.out hs).mono ?_;exact y38_
open Go.RowKit
theorem Vr6 {l:List Int} {b:Int} {i:Nat} (c:i<l.length) (h:outB b (l.getD i 0)=true):l.any (outB b)=true :=
 List.any_eq_true.2 ⟨l[i],List.getElem_mem c,by simpa [List.getD,c] using h⟩
theorem Vq6 {l:List Int} {b:Int} (h:∀ i,i<l.length→outB b (l.getD i 0)=false):l.any (outB b)=false:=y11_
theorem B5_ (h most:Int) (v:Value) (l:List Int) (w:World) (E:Row w w.heap.size v l) :
  Calls Tryz.prog 110 #[v,.int .i64 h,.int .i64 most] w (Says w (numsB l h (most+1))):=by
 obtain ⟨A,c,rfl,hn,o⟩:=E;have z:=hid o;have K:(l.length:Int)≤9223372036854775807:=x45_;clear hn o;unfold numsB;obtain ⟨r,g⟩:∃ r,r=l.any (outB (most+1)):=⟨_,rfl⟩;rw [← g];have d:=hid g;clear g
 go_enter Tryz.func110,Tryz.ntmps110
 go_wp2
 go_loop [7] (fun k=>∃ i:Nat,k=.int .i64 i∧i≤l.length∧∀ j,j<i→outB (most+1) (l.getD j 0)=false) (fun k=>l.length - (intOf k).toNat)
 case atStart=>exact ⟨0,rfl,Nat.zero_le _,fun j q=>absurd q (Nat.not_lt_zero _)⟩
 case round =>
  obtain ⟨i,rfl,J,u⟩:=hrel;have Hok:=hid u;clear u;by_cases s:i<l.length
  ·obtain ⟨G,D,H,I⟩:=z.out i s
   subst D;have m:=hid (Vr6 (b:=most+1) s);have B:Hid (outB (most+1) (l.getD i 0)=false→∀ j,j<i+1→outB (most+1) (l.getD j 0)=false):=by
    intro hb j q;exact q11_
   generalize l.getD i 0=x at *
   have L:(i:Int)<(l.length:Int):=y40_;by_cases y:x<0
   ·have Hr:Hid (r=true):=d.out.trans (m.out (decide_eq_true (.inl y)))
    exact q27_
   ·have M:0≤x:=by omega
    clear y;by_cases F:most<x
    ·have Hr:Hid (r=true):=d.out.trans (m.out (decide_eq_true (.inr y40_)))
     exact q27_
    ·have N:x≤most:=by omega
     have C:Hid (outB (most+1) x=false):=decide_eq_false y40_;clear F;go_wp2
     go_round
     case rel=>exact ⟨i+1,j41_,y40_,B.out C.out⟩
     exact mz_
  ·have p:i=l.length:=by omega
   have Hie:=hid p;have Hr:Hid (r=false):=d.out.trans (Vq6 y49_);obtain rfl:=Hr.out;obtain rfl:=p;by_cases hl:(l.length:Int)=h
   ·have Hl:=hid hl
    rw [decide_eq_true hl];exact x26_
   ·have Hl:=hid hl
    rw [decide_eq_false hl];exact x26_
open Go.RowKit
def Xl8 (n d:Nat):Prop:=∀ x,2≤x→x<d→¬ x ∣ n
theorem Xj5 {n d:Nat} (h2:2≤n) (h:Xl8 n d) (hd:n<d * d):Pr n:=by
 refine ⟨h2,fun c hc=>?_⟩;obtain ⟨k,e⟩:=hc;have o:c≠0:=by rintro rfl;omega
 have p:k≠0:=by rintro rfl;omega
 by_cases f:c=1
 ·exact .inl f
 ·right
  by_cases j:k=1
  ·rw [e,j,Nat.mul_one]
  ·exfalso
   have g:d≤c:=by
    rcases Nat.lt_or_ge c d with hl | hl
    ·exact absurd ⟨k,e⟩ (h c y40_ hl)
    ·exact hl
   have m:d≤k:=by
    rcases Nat.lt_or_ge k d with hl | hl
    ·exact absurd ⟨c,by rw [e,Nat.mul_comm]⟩ (h k y40_ hl)
    ·exact hl
   have:=Nat.mul_le_mul g m;omega
theorem Xl9 {n d:Nat} (h2:2≤d) (hd:d * d≤n) (h:n % d=0):¬ Pr n:=by
 intro c;have:d<n:=by
  have:=Nat.mul_le_mul_left d h2;omega
 rcases c.2 d (Nat.dvd_of_mod_eq_zero h) with e | e<;>omega
theorem Zs5 (P:Nat) (w:World) (h2:2≤P) (O:P≤2147483647) :
  Calls Tryz.prog 142 #[.int .i64 P] w fun e w'=>e=.returned (.bool (prB P))∧w'=w:=by
 obtain ⟨b,hb⟩:∃ b,b=prB P:=⟨_,rfl⟩;have D:Pr P→b=true:=fun h=>hb.trans (Vz0 ⟨y40_,y40_,by rw [Int.toNat_natCast];exact h⟩);have y:¬ Pr P→b=false:=fun h=>hb.trans (N8_ fun k=>h (by have:=k.2.2;rwa [Int.toNat_natCast] at this));have G:=hid D;have F:=hid y;rw [← hb];clear hb D y;have K:¬ (P:Int)<2:=y40_;have Q:¬ (2147483647:Int)<(P:Int):=y40_
 go_enter Tryz.func142,Tryz.ntmps142
 go_wp2
 go_loopw [3] (fun o wr=>∃ d:Nat,o=.int .i64 d∧2≤d∧d≤46341∧Xl8 P d∧wr=w) (fun o _=>46342 - (intOf o).toNat)
 case atStart=>exact ⟨2,rfl,Nat.le_refl _,q41_,fun x r h2=>by omega,rfl⟩
 case round =>
  obtain ⟨d,rfl,H,s,v,rfl⟩:=hrel;have p:=hid v;clear v;have z:wrap64 ((d:Int) * (d:Int))=((d * d:Nat):Int):=by
   have:=Nat.mul_le_mul s s;rw [← Int.natCast_mul];unfold wrap64;omega
  have L:¬ (d:Int)=0:=y40_;have B:=Yy3 P d;by_cases j:d * d≤P
  ·have M:d<46341:=by
    rcases Nat.lt_or_ge d 46341 with h | h
    ·exact h
    ·have:=Nat.mul_le_mul h h
     omega
   obtain ⟨q,c⟩:∃ q,q=d * d:=⟨_,rfl⟩;rw [← c] at z;have I:(q:Int)≤(P:Int):=y40_;by_cases g:P % d=0
   ·have hb:=F.out (Xl9 H j g)
    subst hb;rw [g] at B;clear c j g;exact j4_
   ·obtain ⟨m,u⟩:∃ m,m=P % d:=⟨_,rfl⟩
    rw [← u] at B;have N:¬ (m:Int)=0:=y40_;have E:Hid (Xl8 P (d+1)):=hid (by
     intro x r h3 C;by_cases J:x=d
     ·subst J
      exact g (Nat.mod_eq_zero_of_dvd C)
     ·exact p.out x r y40_ C)
    clear c j g u;go_wp2
    go_roundw
    case rel=>exact ⟨d+1,j41_,y40_,y40_,E.out,trivial⟩
    exact mz_
  ·have hb:=G.out (Xj5 h2 p.out y40_)
   subst hb;obtain ⟨q,c⟩:∃ q,q=d * d:=⟨_,rfl⟩;rw [← c] at z;have I:¬ (q:Int)≤(P:Int):=y40_;clear c j;exact j4_
theorem Yq6 (p:Int) (w:World):Calls Tryz.prog 142 #[.int .i64 p] w fun e w'=>e=.returned (.bool (prB p))∧w'=w:=by
 by_cases h2:p<2
 ·have hf:prB p=false:=N8_ fun h=>by have:=h.1;omega
  exact y35_
 ·by_cases h3:2147483647<p
  ·have hf:prB p=false:=N8_ fun h=>by have:=h.2.1;omega
   exact y35_
  ·obtain ⟨P,rfl⟩:∃ P:Nat,p=P:=⟨p.toNat,y40_⟩
   exact Zs5 P w y40_ y40_
theorem O5_ (p:Int) (w:World):Calls Tryz.prog 142 #[.int .i64 p] w (Gets w (.bool (prB p))) :=
 (Yq6 p w).mono fun _ _ ⟨c,h2⟩=>⟨c,by rw [h2];exact Below.refl _ _⟩
theorem H1_ (p:Int) (b:Bool) (h:prB p=b) (w:World):Calls Tryz.prog 142 #[.int .i64 p] w (Gets w (.bool b)):=by
 subst h;exact O5_ p w
theorem Vr7 {p rows:Int} {cols:List (List Int)} {i:Nat} (c:i<cols.length) (h:badRow p rows (cols.getD i [])=true):cols.any (badRow p rows)=true :=
 List.any_eq_true.2 ⟨cols[i],List.getElem_mem c,by simpa [List.getD,c] using h⟩
theorem Vq7 {p rows:Int} {cols:List (List Int)} (h:∀ i,i<cols.length→badRow p rows (cols.getD i [])=false):cols.any (badRow p rows)=false:=y11_
theorem Vr8 {p rows:Int} {col:List Int} {k:Nat} (c:k<col.length) (h:wrongB p (col.getD k 0)=true):badRow p rows col=true:=by
 unfold badRow;rw [Bool.or_eq_true];exact .inr (List.any_eq_true.2 ⟨col[k],List.getElem_mem c,by simpa [List.getD,c] using h⟩)
theorem Vq8 {p rows:Int} {col:List Int} (hl:(col.length:Int)=rows) (h:∀ k,k<col.length→wrongB p (col.getD k 0)=false):badRow p rows col=false:=by
 unfold badRow;rw [decide_eq_false y40_,Bool.false_or,List.any_eq_false];intro x d;obtain ⟨i,c,rfl⟩:=List.mem_iff_getElem.1 d;have:=h i c;simpa [List.getD,c] using this
theorem Zf5 (p rows:Int) (v:Value) (cols:List (List Int)) (w:World) (hr:Rows2 w w.heap.size v cols) :
  Calls Tryz.prog 112 #[.int .i64 p,.int .i64 rows,v] w (Says w (elimB p rows cols)):=by
 obtain ⟨A,c,rfl,hn,E⟩:=hr;have O:=hid E;have x8:(cols.length:Int)≤9223372036854775807:=x45_;clear hn E;unfold elimB;rcases hp:prB p with _ | _
 ·simp only [Bool.false_and]
  have HP:=hid hp;clear hp
  go_enter Tryz.func112,Tryz.ntmps112
  go_wp2_with fail
  refine (H1_ p false HP.out _).mono ?_;exact k9_
 ·simp only [Bool.true_and]
  have HP:=hid hp;clear hp;by_cases W:rows<0
  ·exact z36_
  ·have X:0≤rows:=by omega
   clear W;by_cases h2:64<rows
   ·exact z36_
   ·have Y:rows≤64:=by omega
    rw [decide_eq_true (show 0≤rows∧rows≤64 from ⟨X,Y⟩),Bool.true_and];clear h2;by_cases h3:cols.length≤64
    ·rw [decide_eq_true h3,Bool.true_and]
     have Z:(cols.length:Int)≤64:=y40_;obtain ⟨R,rfl⟩:∃ R:Nat,rows=(R:Int):=⟨rows.toNat,y40_⟩;obtain ⟨r,q⟩:∃ r,r=!cols.any (badRow p R):=⟨_,rfl⟩;rw [← q];have h:=hid q;clear q
     go_enter Tryz.func112,Tryz.ntmps112
     go_wp2_with fail
     refine (H1_ p true HP.out _).mono ?_;rintro e w1 ⟨rfl,hb1⟩;have Hb1:=hid hb1;clear hb1;go_wp2
     go_loop [7] (fun s=>∃ i:Nat,s=.int .i64 i∧i≤cols.length∧∀ j,j<i→badRow p R (cols.getD j [])=false) (fun s=>cols.length - (intOf s).toNat)
     case atStart=>exact ⟨0,rfl,Nat.zero_le _,fun j d=>absurd d (Nat.not_lt_zero _)⟩
     case round =>
      obtain ⟨i,rfl,hi,J⟩:=hrel;have Hok:=hid J;clear J;by_cases H:i<cols.length
      ·obtain ⟨V,u,hA,hab,C,x5⟩:=O.out i H
       subst hA;have x2:=(Hb1.out.cell (p:=V.add i) x42_).trans C;obtain ⟨Ac,cc,rfl,_,F⟩:=x5;have o:=hid (Vr7 (p:=p) (rows:=R) H);have Q:Hid (badRow p R (cols.getD i [])=false→∀ j,j<i+1→badRow p R (cols.getD j [])=false):=by
        intro hb j d;exact q11_
       generalize cols.getD i []=col at *
       have P:=hid F;have x9:(i:Int)<(cols.length:Int):=y40_;clear F C;by_cases hl:(col.length:Int)=(R:Int)
       ·have m:col.length=R:=by omega
        have I:((col.length:Int) != (R:Int))=false:=by simp [m]
        have g:=hid m;clear hl;rw [m] at I x2;clear m;go_wp2
        go_loop [8] (fun y=>∃ k:Nat,y=.int .i64 k∧k≤R∧∀ j,j<k→wrongB p (col.getD j 0)=false) (fun y=>R - (intOf y).toNat)
        case atStart=>exact ⟨0,rfl,Nat.zero_le _,fun j d=>absurd d (Nat.not_lt_zero _)⟩
        case round =>
         obtain ⟨k,rfl,hk,M⟩:=hrel;have B:=hid M;clear M;by_cases G:k<R
         ·obtain ⟨U,x0,x1,D⟩:=P.out k (by rw [g.out];exact G)
          subst x0;have x6:=(Hb1.out.cell (p:=U.add k) (by rw [Z2_];exact x1)).trans D;have x7:(k:Int)<(R:Int):=y40_;have z:=hid (Vr8 (p:=p) (rows:=R) (col:=col) (k:=k) (by rw [g.out];exact G));have T:Hid (wrongB p (col.getD k 0)=false→∀ j,j<k+1→wrongB p (col.getD j 0)=false):=by
           intro hb j d;by_cases e:j=k
           ·rw [e];exact hb
           ·exact B.out j y40_
          generalize col.getD k 0=x at *
          clear D;by_cases K:x<0
          ·have Hr:Hid (r=false):=h.out.trans (by rw [o.out (z.out (decide_eq_true (.inl K)))];rfl)
           exact z37_
          ·have xa:0≤x:=by omega
           clear K;by_cases L:p≤x
           ·have Hr:Hid (r=false):=h.out.trans (by rw [o.out (z.out (decide_eq_true (.inr L)))];rfl)
            exact z37_
           ·have xb:x<p:=by omega
            have S:Hid (wrongB p x=false):=decide_eq_false y40_;clear L;go_wp2
            go_round
            case rel=>exact ⟨k+1,j41_,y40_,T.out S.out⟩
            exact mz_
         ·have x4:k=R:=by omega
          subst x4;have N:Hid (badRow p k col=false):=Vq8 (by rw [g.out]) (by rw [g.out];exact B.out);go_wp2
          go_round
          case rel=>exact ⟨i+1,j41_,y40_,Q.out N.out⟩
          exact mz_
       ·have I:((col.length:Int) != (R:Int))=true:=by simpa using hl
        have Hr:Hid (r=false):=h.out.trans (by
         rw [o.out (by unfold badRow;rw [decide_eq_true hl,Bool.true_or])];rfl)
        obtain rfl:=Hr.out;clear hl;exact k1_
      ·have x3:i=cols.length:=by omega
       subst x3;have Hr:Hid (r=true):=h.out.trans (by rw [Vq7 Hok.out];rfl);exact z37_
    ·rw [decide_eq_false h3,Bool.false_and]
     have Z:64<(cols.length:Int):=y40_;clear h3;exact j5_
open Go.RowKit
theorem wpAny_act {P:Program} {d:Region.Mode} {ops:Array Oper} {Q:Exit→Act→World→Prop} {fuel:Nat} {c:Array Bool} {a b:Act} {w:World} (h:a=b) (k:wpAny P d ops Q fuel c b w):wpAny P d ops Q fuel c a w:=h▸k
theorem wpAny_n {P:Program} {d:Region.Mode} {ops:Array Oper} {Q:Exit→Act→World→Prop} {fuel:Nat} {c:Array Bool} {a b:Act} {w:World} (k:wpAny P d ops Q fuel c b w) (h:a=b:=by (go_simp;with_reducible rfl)):wpAny P d ops Q fuel c a w:=h▸k
theorem wpAny_t (i:Nat) {P:Program} {e:Region.Mode} {ops:Array Oper} {Q:Exit→Act→World→Prop} {fuel:Nat} {d:Array Bool} {f:Oper} {v:Value} {a b:Act} {w:World} (k:wpAny P e ops Q fuel (d.setIfInBounds i true) b w) (m:ops[i]?=some f:=by rfl) (hs:Region.noSelect ops=true:=by kernel_rfl) (j:Region.free e ops d i=true:=by kernel_rfl) (o:(Region.ready e ops d).contains i=true:=by kernel_rfl) (g:∀ c a w,Q (.panic c) (a.put f.dst v) w→Q (.panic c) a w:=by exact fun _ _ _ h=>h) (p:Yields P ops f v a:=by (refine Or.inl ⟨by first | rfl | (simp [Region.wanted,yielded,go_sem,undef];done) | (simp [Region.wanted,yielded,go_sem,undef];omega),?_⟩;intro w;go_simp;try with_reducible rfl)) (h:a.put f.dst v=b:=by (go_simp;with_reducible rfl)):wpAny P e ops Q (fuel+1) d a w:=wpAny_take (i:=i) m hs j o g p (h▸k)
theorem wpAny_u (i:Nat) {P:Program} {e:Region.Mode} {ops:Array Oper} {Q:Exit→Act→World→Prop} {fuel:Nat} {d:Array Bool} {f:Oper} {a b:Act} {w:World} (k:wpAny P e ops Q fuel (d.setIfInBounds i true) b w) (m:ops[i]?=some f:=by rfl) (hs:Region.noSelect ops=true:=by kernel_rfl) (j:Region.free e ops d i=true:=by kernel_rfl) (o:(Region.ready e ops d).contains i=true:=by kernel_rfl) (g:∀ c a w,Q (.panic c) (a.put f.dst undef) w→Q (.panic c) a w:=by exact fun _ _ _ h=>h) (p:Yields P ops f undef a:=by exact Or.inr ⟨by first | (simp [Region.wanted,yielded,go_sem,undef];done) | (simp [Region.wanted,yielded,go_sem,undef];omega),rfl⟩) (h:a.put f.dst undef=b:=by (go_simp;with_reducible rfl)):wpAny P e ops Q (fuel+1) d a w:=wpAny_take (i:=i) m hs j o g p (h▸k)
theorem below_drew (w:World):Below w.heap.size w w.drew:=⟨rfl,rfl,rfl,Nat.le_refl _,fun _ _=>rfl⟩
theorem Zm0 (v:Value) (l:List Int) (b:Bool) (h:mayB l=b) (w:World) (hr:Row w w.heap.size v l):Calls Tryz.prog 14 #[v] w (Says w b):=j25_
theorem Xm0 (right:Int) (v:Value) (adj:List (List Int)) (w:World) (V:Rows2 w w.heap.size v adj) :
  Calls Tryz.prog 111 #[.int .i64 right,v] w (Says w (mayM right adj)):=by
 obtain ⟨A,c,rfl,hcap,G⟩:=V;have x2:(adj.length:Int)≤9223372036854775807:=x6_;have P:=hid G;clear G
 go_enter Tryz.func111,Tryz.ntmps111
 go_wp2
 go_loopw [5] (fun y wr=>∃ i:Nat,y=.int .i64 i∧i≤adj.length∧Below w.heap.size w wr∧∀ j,j<i→okA right (adj.getD j [])=true) (fun y _=>adj.length - (intOf y).toNat)
 case atStart=>exact ⟨0,rfl,Nat.zero_le _,Below.refl _ _,fun j J=>absurd J (Nat.not_lt_zero _)⟩
 case round =>
  obtain ⟨i,rfl,hi,F,M⟩:=hrel;have Hbr:=hid F;have Hok:=hid M;clear F M;by_cases L:i<adj.length
  ·have x4:(i:Int)<(adj.length:Int):=by omega
   obtain ⟨D,u,S,hab,q,N⟩:=P.out i L;subst S;have k:=(Hbr.out.cell (p:=D.add i) x42_).trans q;have C:=hid ((N.below Hbr.out).mono Hbr.out.size);have B:=hid (fun h=>mayM_miss (right:=right) L h);have Hnext:Hid (okA right (adj.getD i [])=true→∀ j,j<i+1→okA right (adj.getD j [])=true):=hid fun h j J=>x11_;clear Hok;generalize adj.getD i []=l at *
   obtain ⟨Y,cu,rfl,I,H⟩:=N;have x3:(l.length:Int)≤9223372036854775807:=by
    have h1:=I.1;have h2:=I.2.1;unfold maxLen at h2;omega
   have Q:=hid H;have R:=hid q;clear H q;go_wp2;refine wp_region_any z40_ ?_;change wpAny _ _ _ _ _ _ _ (World.drew _);refine wpAny_t 0 ?_;refine wpAny_t 1 ?_;refine wpAny_t 2 ?_;refine wpAny_ready (rs:=[3]) z40_ k40_ ?_;refine AllReady.cons rfl (fun K d=>?_) AllReady.nil;go_simp;refine d _ _ ?_;clear d K;rcases hm:mayB l with _ | _
   ·have g:=hid hm
    clear hm;refine wpAny_ready (rs:=[4]) z40_ k40_ ?_;refine AllReady.cons rfl (fun K d=>?_) AllReady.nil;go_simp;refine (Zm0 _ l false g.out _ (C.out.up (below_drew wr))).mono ?_;rintro e X ⟨rfl,m⟩;refine d _ _ ?_;clear d K;have Hb1:=hid (Hbr.out.drew.trans (m.mono (by have:=Hbr.out.size;simpa using this)));clear m k;have Hno:=hid (B.out (Xe1 g.out));refine wpAny_t 5 ?_;refine wpAny_t 6 ?_;refine wpAny_u 7 ?_;refine wpAny_u 8 ?_;refine wpAny_u 9 ?_;refine wpAny_u 10 ?_;refine wpAny_u 11 ?_;refine wpAny_u 12 ?_;refine wpAny_u 13 ?_;refine wpAny_u 14 ?_;refine wpAny_u 15 ?_;refine wpAny_u 16 ?_;refine wpAny_u 17 ?_;refine wpAny_u 18 ?_;refine wpAny_u 19 ?_;refine wpAny_u 20 ?_;refine wpAny_u 21 ?_;refine wpAny_u 22 ?_;refine wpAny_u 23 ?_;refine wpAny_u 24 ?_;refine wpAny_u 25 ?_;refine wpAny_u 26 ?_;refine wpAny_u 27 ?_;refine wpAny_u 28 ?_;refine wpAny_t 29 ?_;refine wpAny_done z40_ ?_ _;exact x9_
   ·have g:=hid hm
    clear hm;refine wpAny_ready (rs:=[4]) z40_ k40_ ?_;refine AllReady.cons rfl (fun K d=>?_) AllReady.nil;go_simp;refine (Zm0 _ l true g.out _ (C.out.up (below_drew wr))).mono ?_;rintro e X ⟨rfl,m⟩;refine d _ _ ?_;clear d K;have Hb1:=hid (Hbr.out.drew.trans (m.mono (by have:=Hbr.out.size;simpa using this)));clear m k;have k:=(Hb1.out.cell (p:=D.add i) x42_).trans R.out;refine wpAny_t 5 ?_;refine wpAny_t 6 ?_;refine wpAny_t 7 ?_;refine wpAny_t 8 ?_;refine wpAny_t 9 ?_;refine wpAny_ready (rs:=[10]) z40_ k40_ ?_;refine AllReady.cons rfl (fun K d=>?_) AllReady.nil;go_simp;refine d _ _ ?_;clear d K;by_cases o:l.length=0
    ·have Hok1:=hid (Zp2 (right:=right) g.out o)
     have Z:Hid ((l.length:Int)=0):=hid y40_;rw [o];refine wpAny_t 11 ?_;refine wpAny_t 12 ?_;refine wpAny_t 13 ?_;refine wpAny_u 14 ?_;refine wpAny_u 15 ?_;refine wpAny_u 16 ?_;refine wpAny_u 17 ?_;refine wpAny_u 18 ?_;refine wpAny_u 19 ?_;refine wpAny_u 20 ?_;refine wpAny_u 21 ?_;refine wpAny_u 22 ?_;refine wpAny_u 23 ?_;refine wpAny_u 24 ?_;refine wpAny_u 25 ?_;refine wpAny_u 26 ?_;refine wpAny_u 27 ?_;refine wpAny_t 28 ?_;refine wpAny_t 29 ?_;refine wpAny_done z40_ ?_ _;clear o k;exact q6_
    ·obtain ⟨x,s⟩:∃ x,l.getD (l.length - 1) 0=x:=⟨_,rfl⟩
     obtain ⟨al,T,halb,r⟩:=Q.out (l.length - 1) y40_;have z:=hid (Zq6 (right:=right) g.out y40_ s);rw [s] at r;subst T;have x0:0<l.length:=y40_;have x1:(1:Int)≤(l.length:Int):=y40_;have x5:IntKind.i64.wrap ((l.length:Int) - 1)=(l.length:Int) - 1:=y41_;have x6:(0:Int)≤(l.length:Int) - 1:=y40_;have x7:(l.length:Int) - 1<(l.length:Int):=y40_;have x8:((l.length:Int) - 1).toNat=l.length - 1:=y40_;have E:=(Hb1.out.cell (p:=al.add (l.length - 1)) q47_).trans r;clear s r o;refine wpAny_t 11 ?_;refine wpAny_t 12 ?_;refine wpAny_t 13 ?_;refine wpAny_t 14 ?_;refine wpAny_t 15 ?_;refine wpAny_t 16 ?_;refine wpAny_t 18 ?_;refine wpAny_t 19 ?_;refine wpAny_t 20 ?_;refine wpAny_t 26 ?_;refine wpAny_ready (rs:=[17,21]) z40_ k40_ ?_;refine AllReady.cons rfl (fun K d=>?_) (AllReady.cons rfl (fun K d=>?_) AllReady.nil);go_simp;refine d _ _ ?_;clear d K;refine wpAny_ready (rs:=[21]) z40_ k40_ ?_;refine AllReady.cons rfl (fun K d=>?_) AllReady.nil;go_simp;refine d _ _ ?_;clear d K;refine wpAny_t 22 ?_;refine wpAny_t 23 ?_;rotate_left;go_simp;refine d _ _ ?_;clear d K;refine wpAny_t 22 ?_;refine wpAny_t 23 ?_;refine wpAny_ready (rs:=[17]) z40_ k40_ ?_;refine AllReady.cons rfl (fun K d=>?_) AllReady.nil;go_simp;refine d _ _ ?_;clear d K
     all_goals
      refine wpAny_t 24 ?_;refine wpAny_ready (rs:=[25]) z40_ k40_ ?_;refine AllReady.cons rfl (fun K d=>?_) AllReady.nil;go_simp;refine d _ _ ?_;clear d K;by_cases O:x<right
      ·have W:¬ right≤x:=by omega
       have Hok1:Hid (okA right l=true):=hid (z.out.trans (decide_eq_true O));refine wpAny_t 27 ?_;refine wpAny_t 28 ?_;refine wpAny_t 29 ?_;refine wpAny_done z40_ ?_ _;clear k E;exact q6_
      ·have W:right≤x:=by omega
       have Hno:=hid (B.out (z.out.trans (decide_eq_false O)));refine wpAny_t 27 ?_;refine wpAny_t 28 ?_;refine wpAny_t 29 ?_;refine wpAny_done z40_ ?_ _;clear k E;exact x9_
  ·have U:i=adj.length:=by omega
   subst U;by_cases b1:0≤right
   ·by_cases b2:right≤64
    ·by_cases b3:(adj.length:Int)≤64
     ·have Hyes:=hid (mayM_all (adj:=adj) y40_ y40_ y40_ Hok.out)
      exact z7_
     ·have Hno:=hid (mayM_off (right:=right) (adj:=adj) (.inr (.inr y40_)))
      exact y9_
    ·have Hno:=hid (mayM_off (right:=right) (adj:=adj) (.inr (.inl y40_)))
     exact y9_
   ·have Hno:=hid (mayM_off (right:=right) (adj:=adj) (.inl y40_))
    exact y9_
end Go.Proofs.YtigobiacbficaaaGreatDoor.Wp
