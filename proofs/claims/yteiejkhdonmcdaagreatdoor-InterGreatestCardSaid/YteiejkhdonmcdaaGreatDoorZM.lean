/- What the calls on numbers modulo a prime give, plain; and small laws of memory that their walks use. The program's divides, Mod, walked. The program's Pow, walked. The program's passes, walked. The program's Prime, walked. The program's Inv, walked. Inverses modulo a prime, plain. -/
import Derived.Test.YteiejkhdonmcdaaGreatDoorMRun
import Derived.Test.YteiejkhdonmcdaaGreatDoorMShelf
import Derived.Test.YteiejkhdonmcdaaGreatDoorZA
import Derived.WalkKit
import Derived.OwnWalk
import Derived.Laws.Cells
import Derived.Deep.Draws
import Derived.BigQuiet
import Derived.Deep.QuietTactic
import Derived.Lib.RabinKarpLaws
import Derived.Test.YteiejkhdonmcdaaGreatDoorX0A
import Derived.Test.YteiejkhdonmcdaaGreatDoorX0B
set_option maxHeartbeats 2000000
set_option maxRecDepth 100000
open Go.Lib (hid)
namespace Go.Proofs.YteiejkhdonmcdaaGreatDoor.Wp
private theorem z8_ {P:Prop} (h:P:=by
 rintro e w1 ⟨rfl,hb1⟩
 go_wp2_with fail
 refine (Hm.out _).mono ?_
 rintro e w2 ⟨rfl,rfl⟩
 go_wp2_with fail
 refine (Hw.out _).mono ?_
 rintro e w3 ⟨rfl,hb3⟩
 have hB3:=Z0_ hb1 (Nat.le_refl _) hb3
 go_wp2
 go_ret2
 exact ⟨rfl,hB3⟩):P:=h
private theorem y14_ {P:Prop} (h:P:=by
 rintro e w1 ⟨rfl,hb1⟩
 go_wp2_with fail
 refine (Hm.out _).mono ?_
 rintro e w2 ⟨rfl,rfl⟩
 go_wp2
 go_ret2
 exact ⟨rfl,hb1⟩):P:=h
end Go.Proofs.YteiejkhdonmcdaaGreatDoor.Wp
namespace Go.Proofs.YteiejkhdonmcdaaGreatDoor.Wp
open Go Go.RowKit
def Gets (w:World) (v:Value) (e:Ending) (w':World):Prop:=e=.returned v∧Below w.heap.size w w'
theorem M8_ (w:World) (v:Value):Gets w v (.returned v) w:=⟨rfl,Below.refl _ w⟩
structure Met (w:World):Prop where
 lt : 8 < w.heap.size
 tab:TabAt 8 Lib.deBruijn64tab w
theorem Met.up {w w':World} (h:Met w) (hb:Below w.heap.size w w'):Met w':=⟨Nat.lt_of_lt_of_le h.lt hb.size,fun j c=>(hb.cell (p:=⟨8,j,none⟩) h.lt).trans (h.tab j c)⟩
def In31 (p:Int):Prop:=1≤p∧p≤2147483647
instance (p:Int):Decidable (In31 p):=inferInstanceAs (Decidable (_∧_))
def modI (a p:Int):Int:=if In31 p then a % p else 0
def powI (a n p:Int):Int:=if In31 p∧0≤n then (((a % p).toNat ^ n.toNat % p.toNat:Nat):Int) else 0
def PrI (p:Int):Prop:=2≤p∧p≤2147483647∧Pr p.toNat
def wit (n:Nat):List Nat→Bool
 | []=>true
 | w :: ws=>if n % w=0 then decide (n=w) else if stB n w then wit n ws else false
def prB (p:Int):Bool:=decide (2≤p) && decide (p≤2147483647) && wit p.toNat [2,3,5,7]
def invB (a p:Int):Bool:=prB p && !decide (modI a p=0)
def invI (a p:Int):Int:=if invB a p then powI a (p - 2) p else 0
theorem pr_of {p:Nat} (h:2≤p) (k:∀ d,d<p+1→d ∣ p→d=1∨d=p):Pr p :=
 ⟨h,fun d hd=>k d (by have:=Nat.le_of_dvd k35_ hd;omega) hd⟩
theorem pr_2:Pr 2:=pr_of k36_ k36_
theorem pr_3:Pr 3:=pr_of k36_ k36_
theorem pr_5:Pr 5:=pr_of k36_ k36_
theorem pr_7:Pr 7:=pr_of k36_ k36_
theorem Xw3 {n:Nat} (c:Pr n) (d:n<2 ^ 64) (h3:3≤n):∀ {ws:List Nat},(∀ w∈ws,Pr w)→wit n ws=true
 | [],_=>rfl
 | w :: ws,hw=>by
  have e:=hw w z36_;unfold wit;by_cases h:n % w=0
  ·rw [if_pos h]
   exact decide_eq_true (e.of_dvd c (Nat.dvd_of_mod_eq_zero h)).symm
  ·rw [if_neg h,if_pos (Yw1 c h3 d fun hd=>?_)]
   ·exact Xw3 c d h3 fun x hx=>hw x q40_
   ·obtain rfl:=c.of_dvd e hd
    exact h (Nat.mod_self n)
theorem Zv9 {n w:Nat} {ws:List Nat} (h:wit n (w :: ws)=true):n=w∨(n % w≠0∧stB n w=true∧wit n ws=true):=by
 unfold wit at h;by_cases c:n % w=0
 ·rw [if_pos c] at h
  exact .inl (of_decide_eq_true h)
 ·rw [if_neg c] at h
  rcases h2:stB n w with _ | _
  ·rw [h2] at h;cases h
  ·rw [h2,if_pos rfl] at h
   exact .inr ⟨c,rfl,h⟩
theorem Xz4 {n:Nat} (v:2≤n) (j:n<2147483648) (h:wit n [2,3,5,7]=true):Pr n:=by
 rcases Zv9 h with rfl | ⟨q,k,h⟩
 ·exact pr_2
 rcases Zv9 h with rfl | ⟨r,m,h⟩
 ·exact pr_3
 rcases Zv9 h with rfl | ⟨s,o,h⟩
 ·exact pr_5
 rcases Zv9 h with rfl | ⟨u,p,h⟩
 ·exact pr_7
 have h3:3≤n:=k35_;have d:n<2 ^ 64:=Nat.lt_trans j k36_;have c:∀ {w:Nat},Pr w→n % w≠0→Nat.Coprime w n:=fun x e=>x.cop fun hd=>e (Nat.mod_eq_zero_of_dvd hd);have g:Nat.gcd n 210=1:=by
  rw [Nat.gcd_comm];exact (c pr_2 q).mul_left ((c pr_3 r).mul_left ((c pr_5 s).mul_left (c pr_7 u)))
 have f:=O7_ h3 d k;refine psi ⟨j,v,⟨f,O7_ h3 d m,O7_ h3 d o,O7_ h3 d p⟩,?_⟩ g;unfold tst;rw [g,pw_eq,show 2 ^ Nat.sub n 1 % n=1 from f,k,m,o,p];rfl
theorem prB_iff {p:Int}:prB p=true↔PrI p:=by
 unfold prB PrI;rw [Bool.and_eq_true,Bool.and_eq_true,decide_eq_true_iff,decide_eq_true_iff];constructor
 ·rintro ⟨⟨c,d⟩,h3⟩
  exact ⟨c,d,Xz4 k35_ k35_ h3⟩
 ·rintro ⟨c,d,h3⟩
  refine ⟨⟨c,d⟩,?_⟩;by_cases h:p.toNat=2
  ·rw [h]
   decide
  ·refine Xw3 h3 (Nat.lt_of_le_of_lt (show p.toNat≤2147483647 by omega) k36_) k35_ fun w e=>?_
   simp only [List.mem_cons,List.not_mem_nil,or_false] at e;rcases e with rfl | rfl | rfl | rfl
   ·exact pr_2
   ·exact pr_3
   ·exact pr_5
   ·exact pr_7
theorem Xi0 {p:Int} (h:PrI p):prB p=true:=prB_iff.2 h
theorem M9_ {p:Int} (h:¬ PrI p):prB p=false:=Bool.eq_false_iff.2 fun e=>h (prB_iff.1 e)
end Go.Proofs.YteiejkhdonmcdaaGreatDoor.Wp
namespace Go.Proofs.YteiejkhdonmcdaaGreatDoor
open Go.RowKit
namespace Wp
theorem L0_ (p:Int) (w:World) (h:In31 p):Calls Tryz.prog 194 #[.int .i64 p] w fun e w'=>e=.returned (.bool true)∧w'=w:=by
 obtain ⟨c,d⟩:=h;exact k30_
theorem Zz0 (p:Int) (w:World) (h:¬ In31 p):Calls Tryz.prog 194 #[.int .i64 p] w fun e w'=>e=.returned (.bool false)∧w'=w:=by
 by_cases d:1≤p
 ·have c:¬ p≤2147483647:=by unfold In31 at h;omega
  have hd:decide (p≤2147483647)=false:=decide_eq_false c;clear h;exact k30_
 ·have g:p<1:=by omega
  clear h;exact k30_
theorem Vh2 (a p:Int) (w:World) (h:¬ In31 p):Calls Tryz.prog 198 #[.int .i64 a,.int .i64 p] w fun e w'=>e=.returned (.int .i64 0)∧w'=w:=by
 go_enter Tryz.func198,Tryz.ntmps198
 go_wp2_with fail
 refine (Zz0 p _ h).mono ?_;rintro e w' ⟨rfl,rfl⟩;exact k4_
theorem Xw4 {a p:Int} (c:1≤p) (h:a.tmod p<0):a.tmod p+p=a % p:=by
 have:=Int.emod_nonneg a (show p≠0 by omega);rw [Int.tmod_eq_emod] at h ⊢;split at h
 ·omega
 ·rw [if_neg ‹_›]
  omega
theorem Yf0 {a p:Int} (c:1≤p) (h:0≤a.tmod p):a.tmod p=a % p:=by
 have:=Int.emod_lt_of_pos a (show 0<p by omega);rw [Int.tmod_eq_emod] at h ⊢;split at h
 ·rw [if_pos ‹_›]
  omega
 ·omega
theorem em_lt {a p:Int} (c:1≤p):0≤a % p∧a % p<p:=⟨Int.emod_nonneg a k35_,Int.emod_lt_of_pos a k35_⟩
theorem Zl4 (a p:Int) (w:World) (h:In31 p):Calls Tryz.prog 198 #[.int .i64 a,.int .i64 p] w fun e w'=>e=.returned (.int .i64 (a % p))∧w'=w:=by
 have c:=h.1;have k:=h.2;have hb:=em_lt (a:=a) c;by_cases d:a.tmod p<0
 ·have j:=Xw4 c d
  exact q31_
 ·have g:0≤a.tmod p:=by omega
  have j:=Yf0 c g;exact q31_
theorem Xz5 (a p:Int) (w:World):Calls Tryz.prog 198 #[.int .i64 a,.int .i64 p] w fun e w'=>e=.returned (.int .i64 (modI a p))∧w'=w:=by
 unfold modI;by_cases h:In31 p
 ·rw [if_pos h]
  exact Zl4 a p w h
 ·rw [if_neg h]
  exact Vh2 a p w h
open Go.RowKit
theorem Zr0 (a b:Nat):(a:Int).tmod (b:Int)=((a % b:Nat):Int):=(Int.ofNat_tmod a b).symm
theorem Vh3 {a b p:Nat} (ha:a<p) (hb:b<p) (c:p≤2147483647):a * b<4611686018427387904:=by
 have:=Nat.mul_le_mul (show a≤2147483647 by omega) (show b≤2147483647 by omega);omega
theorem Xi1 {a b p:Nat} (ha:a<p) (hb:b<p) (c:p≤2147483647):wrap64 ((a:Int) * (b:Int))=((a * b:Nat):Int):=by
 have:=Vh3 ha hb c;rw [← Int.natCast_mul];unfold wrap64;omega
theorem Zx1:∀ (f x:Nat),x<2 ^ f→x<2 ^ Lib.bitLenAux f x
 | 0,x,h=>h
 | f+1,x,h=>by
  unfold Lib.bitLenAux;by_cases c:x=0
  ·rw [if_pos c,c];decide
  ·rw [if_neg c,Nat.pow_add,Nat.pow_one]
   have:=Zx1 f (x / 2) (by rw [Nat.pow_succ] at h;omega);omega
theorem Zx2:∀ (f x:Nat),Lib.bitLenAux f x≤f
 | 0,_=>Nat.le_refl _
 | f+1,x=>by
  unfold Lib.bitLenAux;have:=Zx2 f (x / 2);split<;>omega
theorem Xz6 (n:Nat) (h:n<2 ^ 64):n<2 ^ Lib.bitLen n:=Zx1 64 n h
theorem Xz7 (n:Nat):Lib.bitLen n≤64:=Zx2 64 n
theorem Vv6 {n k:Nat} (hn:n<9223372036854775808) (h:n / 2 ^ k % 2=1):(bits BinOp.and IntKind.i64 ((n:Int) / 2 ^ k) 1==1)=true:=j17_
theorem Xi2 {n k:Nat} (hn:n<9223372036854775808) (h:n / 2 ^ k % 2=0):(bits BinOp.and IntKind.i64 ((n:Int) / 2 ^ k) 1==1)=false:=j17_
theorem Zr1 {a b p c:Nat} (ha:a<p) (hb:b<p) (d:p≤2147483647) (h:a * b % p=c):(wrap64 ((a:Int) * (b:Int))).tmod (p:Int)=(c:Int):=by
 rw [Xi1 ha hb d,Zr0,h]
def pwK (x n p k:Nat):Nat:=x ^ (n % 2 ^ k) % p
def sqK (x p k:Nat):Nat:=x ^ 2 ^ k % p
theorem Xi3 (x p k:Nat):sqK x p k * sqK x p k % p=sqK x p (k+1):=by
 unfold sqK;rw [← Nat.mul_mod,← Nat.pow_add,Nat.pow_succ,Nat.mul_two]
theorem Vv7 {x n p k:Nat} (h:n / 2 ^ k % 2=1):pwK x n p k * sqK x p k % p=pwK x n p (k+1):=by
 unfold sqK pwK;rw [← Nat.mul_mod,← Nat.pow_add,Nat.mod_pow_succ,h,Nat.mul_one]
theorem Xi4 {x n p k:Nat} (h:n / 2 ^ k % 2=0):pwK x n p k=pwK x n p (k+1):=by
 unfold pwK;rw [Nat.mod_pow_succ,h,Nat.mul_zero,Nat.add_zero]
theorem Yf1 (a:Int) (n P:Nat) (w:World) (Y:1≤P) (C:P≤2147483647) (W:n≤9223372036854775807) :
  Calls Tryz.prog 200 #[.int .i64 a,.int .i64 n,.int .i64 P] w fun e w'=>e=.returned (.int .i64 ((a % P).toNat ^ n % P:Nat))∧w'=w:=by
 obtain ⟨x,m⟩:∃ x:Nat,a % (P:Int)=x:=⟨(a % P).toNat,by have:=em_lt (a:=a) (p:=P) k35_;omega⟩;have O:x<P:=by have:=em_lt (a:=a) (p:=P) k35_;omega
 rw [m,Int.toNat_natCast];have d:In31 (P:Int):=⟨k35_,k35_⟩;have v:=hid (fun w=>Zl4 a P w d);have c:=hid (fun w=>Zl4 1 P w d);rw [m] at v;rw [show (1:Int) % (P:Int)=((1 % P:Nat):Int) from rfl] at c;clear m;obtain ⟨L,hL⟩:∃ L,L=Lib.bitLen n:=⟨_,rfl⟩;have q:=hid (Tryz.bits_Len (n:Int));rw [Int.toNat_natCast,← hL] at q;have z:n<2 ^ L:=by rw [hL];exact Xz6 n k35_
 have T:L≤64:=by rw [hL];exact Xz7 n
 have F:=hid z;clear hL z;have X:¬ (n:Int)<0:=k35_;obtain ⟨r,g⟩:∃ r,r=x ^ n % P:=⟨_,rfl⟩;rw [← g];have H:=hid g;clear g;obtain ⟨E,j⟩:∃ E,E=1 % P:=⟨_,rfl⟩;rw [← j] at c;have J:=hid j;clear j
 go_enter Tryz.func200,Tryz.ntmps200
 go_wp2_with fail
 refine (L0_ _ _ d).mono ?_;rintro e Z ⟨rfl,rfl⟩
 go_wp2_with fail
 refine (c.out _).mono ?_;rintro e w2 ⟨rfl,rfl⟩
 go_wp2_with fail
 refine (v.out _).mono ?_;rintro e w3 ⟨rfl,rfl⟩
 go_wp2_with fail
 refine (q.out _ k35_ k35_).mono ?_;rintro e S ⟨rfl,rfl⟩;go_wp2
 go_loopw [7,8,25] (fun Q R o wr=>∃ k:Nat,o=.int .i64 k∧k≤L∧Q=.int .i64 (pwK x n P k:Nat)∧R=.int .i64 (sqK x P k:Nat)∧wr=S) (fun _ _ o _=>L - (intOf o).toNat)
 case atStart =>
  exact ⟨0,rfl,Nat.zero_le _,by rw [J.out];simp [pwK,Nat.mod_one],by simp [sqK,Nat.mod_eq_of_lt O],rfl⟩
 case round =>
  obtain ⟨k,rfl,U,rfl,rfl,rfl⟩:=hrel;by_cases V:k<L
  ·have N:pwK x n P k<P:=Nat.mod_lt _ k35_
   have hs:sqK x P k<P:=Nat.mod_lt _ k35_;obtain ⟨D,hs'⟩:∃ D,D=sqK x P (k+1):=⟨_,rfl⟩;have m2:=Zr1 hs hs C ((Xi3 x P k).trans hs'.symm);have y:=hid hs';clear hs';by_cases hb:n / 2 ^ k % 2=1
   ·obtain ⟨u',h⟩:∃ u',u'=pwK x n P (k+1):=⟨_,rfl⟩
    have m1:=Zr1 N hs C ((Vv7 (x:=x) (p:=P) hb).trans h.symm);have K:=Vv6 k35_ hb;have I:=hid h;clear h hb;generalize pwK x n P k=u at *
    generalize sqK x P k=s at *
    go_wp2
    go_roundw
    case rel=>exact ⟨k+1,x37_,k35_,by rw [I.out],by rw [y.out],trivial⟩
    case measure=>simp [intOf];omega
   ·have K:=Xi2 (n:=n) (k:=k) k35_ k35_
    have B:=Xi4 (x:=x) (p:=P) (n:=n) (k:=k) k35_;have G:=hid B;clear hb B;generalize sqK x P k=s at *
    go_wp2
    go_roundw
    case rel=>exact ⟨k+1,x37_,k35_,by rw [← G.out],by rw [y.out],trivial⟩
    case measure=>simp [intOf];omega
  ·obtain rfl:k=L:=by omega
   have M:pwK x n P k=r:=by
    rw [H.out];unfold pwK;rw [Nat.mod_eq_of_lt F.out]
   rw [M];exact k4_
theorem Vh4 (a:Int) (n P:Nat) (w:World) (g:1≤P) (h:P≤2147483647) (e:n≤9223372036854775807) :
  Calls Tryz.prog 200 #[.int .i64 a,.int .i64 n,.int .i64 P] w (Gets w (.int .i64 ((a % P).toNat ^ n % P:Nat))) :=
 (Yf1 a n P w g h e).mono fun _ _ ⟨c,d⟩=>⟨c,by rw [d];exact Below.refl _ _⟩
theorem Vh5 (a n p:Int) (w:World) (h:¬ (In31 p∧0≤n)):Calls Tryz.prog 200 #[.int .i64 a,.int .i64 n,.int .i64 p] w fun e w'=>e=.returned (.int .i64 0)∧w'=w:=by
 by_cases d:n<0
 ·go_enter Tryz.func200,Tryz.ntmps200
  exact k4_
 ·have c:¬ In31 p:=fun c=>h ⟨c,k35_⟩
  go_enter Tryz.func200,Tryz.ntmps200
  go_wp2_with fail
  refine (Zz0 p _ c).mono ?_;rintro e w' ⟨rfl,rfl⟩;exact k4_
theorem Vv8 (a n p:Int) (w:World) (j:n≤9223372036854775807):Calls Tryz.prog 200 #[.int .i64 a,.int .i64 n,.int .i64 p] w fun e w'=>e=.returned (.int .i64 (powI a n p))∧w'=w:=by
 unfold powI;by_cases h:In31 p∧0≤n
 ·rw [if_pos h]
  obtain ⟨⟨d,g⟩,c⟩:=h;obtain ⟨P,rfl⟩:∃ P:Nat,p=P:=⟨p.toNat,k35_⟩;obtain ⟨N,rfl⟩:∃ N:Nat,n=N:=⟨n.toNat,k35_⟩;exact Yf1 a N P w k35_ k35_ k35_
 ·rw [if_neg h]
  exact Vh5 a n p w h
theorem Vv9 (a n p:Int) (w:World) (e:n≤9223372036854775807):Calls Tryz.prog 200 #[.int .i64 a,.int .i64 n,.int .i64 p] w (Gets w (.int .i64 (powI a n p))) :=
 (Vv8 a n p w e).mono fun _ _ ⟨c,d⟩=>⟨c,by rw [d];exact Below.refl _ _⟩
open Go.RowKit
theorem Vh6 (x:Nat) (d:x<18446744073709551616) (w:World) (c:Met w) :
  Calls Tryz.prog 203 #[.int .u64 x] w fun e w'=>e=.returned (.int .i64 (Lib.ctz 64 x))∧w'=w :=
 Any7.bits_TrailingZeros Tryz.tz27 x d w fun _=>c.tab
theorem Vj0 (n r:Nat):sl n 0 r=false:=rfl
theorem Vj1 (n s:Nat):sl n (s+1) (n - 1)=true:=by
 unfold sl;rw [M5_,decide_eq_true (show n - 1=Nat.sub n 1 from rfl)];rfl
theorem Vj2 {n s r:Nat} (h:r≠n - 1):sl n (s+1) r=sl n s (r * r % n):=by
 rw [show sl n (s+1) r=cond (Nat.beq r (n - 1)) true (sl n s (r * r % n)) from rfl,M5_,decide_eq_false h];rfl
theorem Vj3 {n w r:Nat} (h:w ^ ((n - 1) / 2 ^ Lib.ctz 64 (n - 1)) % n=r) (c:r=1):stB n w=true:=by
 unfold stB;rw [pw_eq,M5_];rw [show w ^ Nat.div (Nat.sub n 1) (Nat.pow 2 (Lib.ctz 64 (Nat.sub n 1))) % n=1 from h.trans c];rfl
theorem Xi5 {n w r:Nat} (h:w ^ ((n - 1) / 2 ^ Lib.ctz 64 (n - 1)) % n=r) (c:r≠1):stB n w=sl n (Lib.ctz 64 (n - 1)) r:=by
 unfold stB;rw [pw_eq,M5_];rw [show w ^ Nat.div (Nat.sub n 1) (Nat.pow 2 (Lib.ctz 64 (Nat.sub n 1))) % n=r from h,decide_eq_false c];rfl
theorem Yl9 (P W:Nat) (w:World) (L:Met w) (h3:3≤P) (F:P≤2147483647) :
  Calls Tryz.prog 195 #[.int .i64 P,.int .i64 W] w (Gets w (.bool (stB P W))):=by
 obtain ⟨s,hs⟩:∃ s,s=Lib.ctz 64 (P - 1):=⟨_,rfl⟩;have v:=hid (Vh6 (P - 1) k35_ w L);rw [← hs] at v;obtain ⟨d,hd⟩:∃ d,d=(P - 1) / 2 ^ s:=⟨_,rfl⟩;have U:d≤P:=by rw [hd];exact Nat.le_trans (Nat.div_le_self _ _) k35_
 have T:((P - 1:Nat):Int) / 2 ^ s=(d:Int):=by
  rw [hd];simp
 obtain ⟨r,m⟩:∃ r,r=W ^ d % P:=⟨_,rfl⟩;have u:=hid (fun w=>Vh4 W d P w k35_ F k35_);have D:((W:Int) % (P:Int)).toNat ^ d % P=r:=by
  rw [m,show (W:Int) % (P:Int)=((W % P:Nat):Int) from rfl,Int.toNat_natCast];exact M4_ (G5_ W P)
 rw [D] at u;have N:r<P:=by rw [m];exact Nat.mod_lt _ k35_
 have B:r=1→stB P W=true:=fun h=>Vj3 (r:=r) (by rw [m,hd,hs]) h;have z:r≠1→stB P W=sl P s r:=fun h=>by rw [Xi5 (r:=r) (by rw [m,hd,hs]) h,hs]
 have Z:s≤64:=by rw [hs];exact Nat.le_of_lt (Lib.lowest_bit 64 (P - 1) k35_ k35_).2
 clear D m hd hs;generalize stB P W=b at *
 have S:((P:Int) - 1)=((P - 1:Nat):Int):=k35_;by_cases x:r=1
 ·have hb:=B x
  subst hb x;clear B z
  go_enter Tryz.func195,Tryz.ntmps195
  go_wp2_with fail
  refine v.out.mono ?_;rintro e Q ⟨rfl,rfl⟩
  go_wp2_with fail
  refine (u.out _).mono ?_;rintro e H ⟨rfl,o⟩;go_wp2;go_ret;exact ⟨rfl,o⟩
 ·have hb:=z x
  subst hb;clear B z;obtain ⟨b,hb⟩:∃ b,b=sl P s r:=⟨_,rfl⟩;rw [← hb];have I:=hid hb;clear hb;have R:¬ (r:Int)=1:=k35_
  go_enter Tryz.func195,Tryz.ntmps195
  go_wp2_with fail
  refine v.out.mono ?_;rintro e Q ⟨rfl,rfl⟩
  go_wp2_with fail
  refine (u.out _).mono ?_;rintro e H ⟨rfl,o⟩;have Hb2:=hid o;clear o;go_wp2
  go_loopw [6,21] (fun O C wr=>∃ k g:Nat,C=.int .i64 k∧k≤s∧O=.int .i64 g∧g<P∧b=sl P (s - k) g∧wr=H) (fun _ C _=>s - (intOf C).toNat)
  case atStart=>exact ⟨0,r,rfl,Nat.zero_le _,rfl,N,I.out,rfl⟩
  case round =>
   obtain ⟨k,g,rfl,V,rfl,G,c,rfl⟩:=hrel;by_cases X:k<s
   ·obtain ⟨j,y⟩:∃ j,s - k=j+1:=⟨s - k - 1,k35_⟩
    rw [y] at c;by_cases E:g=P - 1
    ·subst E
     rw [Vj1] at c;subst c;exact k2_
    ·rw [Vj2 E] at c
     have Y:¬ (g:Int)=((P - 1:Nat):Int):=k35_;obtain ⟨q,p⟩:∃ q,q=g * g % P:=⟨_,rfl⟩;have m1:=Zr1 G G F p.symm;rw [← p] at c;have M:q<P:=by rw [p];exact Nat.mod_lt _ k35_
     have K:=hid c;have J:=hid y;clear p c y;go_wp2
     go_roundw
     case rel=>exact ⟨k+1,q,x37_,k35_,rfl,M,by rw [show s - (k+1)=j by have:=J.out;omega];exact K.out,trivial⟩
     case measure=>simp [intOf];omega
   ·obtain rfl:k=s:=by omega
    rw [Nat.sub_self,Vj0] at c;subst c;exact k2_
open Go.RowKit
theorem widx0 (w:World):(Instr.index 195 (.agg #[.int .i64 2,.int .i64 3,.int .i64 5,.int .i64 7]) (.int .i64 0)).run Tryz.prog w=.ok (.int .i64 2) w:=q36_
theorem widx1 (w:World):(Instr.index 195 (.agg #[.int .i64 2,.int .i64 3,.int .i64 5,.int .i64 7]) (.int .i64 1)).run Tryz.prog w=.ok (.int .i64 3) w:=q36_
theorem widx2 (w:World):(Instr.index 195 (.agg #[.int .i64 2,.int .i64 3,.int .i64 5,.int .i64 7]) (.int .i64 2)).run Tryz.prog w=.ok (.int .i64 5) w:=q36_
theorem widx3 (w:World):(Instr.index 195 (.agg #[.int .i64 2,.int .i64 3,.int .i64 5,.int .i64 7]) (.int .i64 3)).run Tryz.prog w=.ok (.int .i64 7) w:=q36_
theorem Vh7 {k:Nat} (h:k<4):∃ q:Nat,2≤q∧q≤7∧[2,3,5,7].drop k=q :: [2,3,5,7].drop (k+1)∧(k=0→q=2) ∧
  ∀ w,(Instr.index 195 (.agg #[.int .i64 2,.int .i64 3,.int .i64 5,.int .i64 7]) (.int .i64 (k:Int))).run Tryz.prog w=.ok (.int .i64 (q:Int)) w:=by
 have:k=0∨k=1∨k=2∨k=3:=k35_;rcases this with rfl | rfl | rfl | rfl
 ·exact ⟨2,k36_,k36_,rfl,fun _=>rfl,widx0⟩
 ·exact ⟨3,k36_,k36_,rfl,k36_,widx1⟩
 ·exact ⟨5,k36_,k36_,rfl,k36_,widx2⟩
 ·exact ⟨7,k36_,k36_,rfl,k36_,widx3⟩
theorem Vj4 (a b:Nat):((a:Int)==(b:Int))=decide (a=b):=by
 by_cases h:a=b
 ·subst h;simp
 ·rw [decide_eq_false h]
  simp;omega
theorem Xi6 {n q:Nat} {ws:List Nat} (h:n % q=0):wit n (q :: ws)=decide (n=q):=by
 rw [show wit n (q :: ws)=if n % q=0 then decide (n=q) else if stB n q then wit n ws else false from rfl,if_pos h]
theorem Xi7 {n q:Nat} {ws:List Nat} (h:n % q≠0) (hs:stB n q=false):wit n (q :: ws)=false:=y19_
theorem Vh8 {n q:Nat} {ws:List Nat} (h:n % q≠0) (hs:stB n q=true):wit n (q :: ws)=wit n ws:=y19_
theorem Xi8 (P:Nat) (w:World) (j:Met w) (K:2≤P) (I:P≤2147483647) :
  Calls Tryz.prog 174 #[.int .i64 P] w (Gets w (.bool (wit P [2,3,5,7]))):=by
 have G:In31 (P:Int):=⟨k35_,k35_⟩;obtain ⟨b,hb⟩:∃ b,b=wit P [2,3,5,7]:=⟨_,rfl⟩;rw [← hb];have E:=hid hb;clear hb;have y:=hid j;clear j;have Q:¬ (P:Int)<2:=k35_;have L:2≤(P:Int):=k35_
 go_enter Tryz.func174,Tryz.ntmps174
 go_wp2_with fail
 refine (L0_ _ _ G).mono ?_;rintro e v ⟨rfl,rfl⟩;go_wp2
 go_loopw [15] (fun u wr=>∃ k:Nat,u=.int .i64 k∧k≤4∧b=wit P ([2,3,5,7].drop k)∧(k=0∨3≤P)∧Below v.heap.size v wr) (fun u _=>4 - (intOf u).toNat)
 case atStart=>exact ⟨0,rfl,Nat.zero_le _,E.out,.inl rfl,(Below.refl _ v).alloc (Nat.le_refl _) _⟩
 case round =>
  obtain ⟨k,rfl,N,c,h3,B⟩:=hrel;have Hbr:=hid B;clear B;by_cases H:k<4
  ·obtain ⟨q,R,S,hd,p,M⟩:=Vh7 H
   rw [hd] at c;have T:¬ (q:Int)=0:=k35_;have C:=Zr0 P q;by_cases d:P % q=0
   ·rw [Xi6 d] at c
    rw [d] at C;have r:=hid c;clear c hd p h3 d;go_wp2;go_ret;refine ⟨congrArg (fun x=>Ending.returned (.bool x)) ?_,Hbr.out⟩;rw [r.out];exact Vj4 P q
   ·have z:3≤P:=by
     rcases h3 with rfl | h3
     ·have:=p rfl
      subst this;omega
     ·exact h3
    have g:=hid (fun w j=>Yl9 P q w j z I);obtain ⟨m,s⟩:∃ m,m=P % q:=⟨_,rfl⟩;rw [← s] at C;have O:¬ (m:Int)=0:=k35_;rcases hs:stB P q with _ | _
    ·rw [Xi7 d hs] at c
     rw [hs] at g;subst c;clear hd p h3 d s
     go_wp2_with fail
     refine (g.out _ (y.out.up Hbr.out)).mono ?_;rintro e J ⟨rfl,o⟩;have h:=Z0_ Hbr.out (Nat.le_refl _) o;go_wp2;go_ret;exact ⟨rfl,h⟩
    ·rw [Vh8 d hs] at c
     rw [hs] at g;have r:=hid c;clear hd p h3 d s c
     go_wp2_with fail
     refine (g.out _ (y.out.up Hbr.out)).mono ?_;rintro e J ⟨rfl,o⟩;have h:=Z0_ Hbr.out (Nat.le_refl _) o;have D:=hid h;clear o h;go_wp2
     go_roundw
     case rel=>exact ⟨k+1,x37_,k35_,r.out,.inr z,D.out⟩
     case measure=>simp [intOf];omega
  ·obtain rfl:k=4:=by omega
   have F:b=true:=c;subst F;clear c;exact y13_
theorem S9_ (p:Int) (w:World) (d:Met w):Calls Tryz.prog 174 #[.int .i64 p] w (Gets w (.bool (prB p))):=by
 by_cases j:p<2
 ·have c:prB p=false:=M9_ fun h=>by have:=h.1;omega
  rw [c];clear c
  go_enter Tryz.func174,Tryz.ntmps174
  go_wp2;go_ret;exact M8_ _ _
 ·by_cases h3:p≤2147483647
  ·obtain ⟨P,rfl⟩:∃ P:Nat,p=P:=⟨p.toNat,k35_⟩
   have e:prB (P:Int)=wit P [2,3,5,7]:=by
    unfold prB;rw [decide_eq_true (show (2:Int)≤(P:Int) by omega),decide_eq_true h3,Int.toNat_natCast];rfl
   rw [e];exact Xi8 P w d k35_ k35_
  ·have c:prB p=false:=M9_ fun h=>by have:=h.2.1;omega
   rw [c];clear c;have g:¬ In31 p:=fun h=>h3 h.2
   go_enter Tryz.func174,Tryz.ntmps174
   go_wp2_with fail
   refine (Zz0 p _ g).mono ?_;rintro e w' ⟨rfl,rfl⟩;go_wp2;go_ret;exact M8_ _ _
open Go.RowKit
theorem Xz8 {a p:Int} (h:prB p=false):invB a p=false:=by unfold invB;rw [h];rfl
theorem Zr2 {a p:Int} (h:prB p=true) (c:modI a p=0):invB a p=false:=by unfold invB;rw [h,c];rfl
theorem Zl5 {a p:Int} (h:prB p=true) (c:modI a p≠0):invB a p=true:=by unfold invB;rw [h,decide_eq_false c];rfl
theorem Zl6 {a p:Int} (h:invB a p=false):invI a p=0:=by unfold invI;rw [h];rfl
theorem Zl7 {a p:Int} (h:invB a p=true):invI a p=powI a (p - 2) p:=by unfold invI;rw [h];rfl
theorem Vj5 (a p:Int) (w:World) (d:Met w):Calls Tryz.prog 181 #[.int .i64 a,.int .i64 p] w (Gets w (.tuple #[.int .i64 (invI a p),.bool (invB a p)])):=by
 have j:=hid d;clear d;rcases hp:prB p with _ | _
 ·have hB:=Xz8 (a:=a) hp
  rw [Zl6 hB,hB];have c:=hid (fun w d=>S9_ p w d);rw [hp] at c;clear hB hp
  go_enter Tryz.func181,Tryz.ntmps181
  go_wp2_with fail
  refine (c.out _ j.out).mono ?_;rintro e w1 ⟨rfl,hb1⟩;go_wp2
  go_ret2
  exact ⟨rfl,hb1⟩
 ·have c:=hid (fun w d=>S9_ p w d)
  rw [hp] at c;have h:=prB_iff.1 hp;have o:p≤2147483647:=h.2.1;by_cases g:modI a p=0
  ·have hB:=Zr2 hp g
   rw [Zl6 hB,hB];have Hm:=hid (fun w=>Xz5 a p w);rw [g] at Hm;clear hB hp g h
   go_enter Tryz.func181,Tryz.ntmps181
   go_wp2_with fail
   refine (c.out _ j.out).mono ?_;exact y14_
  ·have hB:=Zl5 hp g
   rw [Zl7 hB,hB];have Hm:=hid (fun w=>Xz5 a p w);have Hw:=hid (fun w=>Vv9 a (p - 2) p w k35_);have k:=h.1;have q:wrap64 (p - 2)=p - 2:=by unfold wrap64;omega
   generalize modI a p=m at *
   generalize powI a (p - 2) p=y at *
   clear hB hp h
   go_enter Tryz.func181,Tryz.ntmps181
   go_wp2_with fail
   refine (c.out _ j.out).mono ?_;exact z8_
open Go.RowKit
theorem Vj6 {P x:Nat} (c:Pr P) (d:¬ P ∣ x):x ^ (P - 2) % P * x % P=1:=by
 have e:=c.1;rw [Zy6 (G5_ (x ^ (P - 2)) P) rfl,← Nat.pow_succ,show (P - 2).succ=P - 1 by omega];exact fermat c d
theorem Vj7 {P x:Nat} (c:x≠0) (d:x<P):¬ P ∣ x:=fun hd=>by
 have:=Nat.le_of_dvd k35_ hd;omega
theorem Xi9 {a:Int} {P x:Nat} (c:2≤P) (d:P≤2147483647) (ha:a % (P:Int)=x):powI a ((P:Int) - 2) P=((x ^ (P - 2) % P:Nat):Int):=by
 unfold powI;rw [if_pos ⟨⟨k35_,k35_⟩,k35_⟩,ha,Int.toNat_natCast,Int.toNat_natCast,show ((P:Int) - 2).toNat=P - 2 by omega]
theorem Vh9 {a:Int} {P x:Nat} (f:prB (P:Int)=true) (c:2≤P) (d:P≤2147483647) (ha:a % (P:Int)=x) (g:x≠0) :
  invB a P=true∧invI a P=((x ^ (P - 2) % P:Nat):Int):=by
 have e:modI a P=x:=(if_pos ⟨k35_,k35_⟩:modI a P=a % P).trans ha;have hb:=Zl5 f (a:=a) (by rw [e];omega);exact ⟨hb,by rw [Zl7 hb,Xi9 c d ha]⟩
end Wp
end Go.Proofs.YteiejkhdonmcdaaGreatDoor
