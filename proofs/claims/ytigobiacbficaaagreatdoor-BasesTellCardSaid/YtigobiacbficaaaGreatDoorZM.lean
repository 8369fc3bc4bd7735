/- What the calls on numbers modulo a prime give, plain; and small laws of memory that their walks use. The program's divides, Mod, walked. The program's Pow, walked. The program's passes, walked. The program's Prime, walked. The program's Inv, walked. Inverses modulo a prime, plain. -/
import Derived.Test.YtigobiacbficaaaGreatDoorMRun
import Derived.Test.YtigobiacbficaaaGreatDoorMShelf
import Derived.Test.YtigobiacbficaaaGreatDoorZA
import Derived.WalkKit
import Derived.OwnWalk
import Derived.Laws.Cells
import Derived.Deep.Draws
import Derived.BigQuiet
import Derived.Deep.QuietTactic
import Derived.Lib.RabinKarpLaws
import Derived.Test.YtigobiacbficaaaGreatDoorX0A
import Derived.Test.YtigobiacbficaaaGreatDoorX0B
set_option maxHeartbeats 2000000
set_option maxRecDepth 100000
open Go.Lib (hid)
namespace Go.Proofs.YtigobiacbficaaaGreatDoor.Wp
private theorem j9_ {P:Prop} (h:P:=by
 rintro e w1 ⟨rfl,hb1⟩
 go_wp2_with fail
 refine (Hm.out _).mono ?_
 rintro e w2 ⟨rfl,rfl⟩
 go_wp2_with fail
 refine (Hw.out _).mono ?_
 rintro e w3 ⟨rfl,hb3⟩
 have hB3:=Z0_ hb1 (Nat.le_refl _) hb3
 go_wp2
 go_ret2
 exact ⟨rfl,hB3⟩):P:=h
private theorem x17_ {P:Prop} (h:P:=by
 rintro e w1 ⟨rfl,hb1⟩
 go_wp2_with fail
 refine (Hm.out _).mono ?_
 rintro e w2 ⟨rfl,rfl⟩
 go_wp2
 go_ret2
 exact ⟨rfl,hb1⟩):P:=h
open Go Go.RowKit
def Gets (w:World) (v:Value) (e:Ending) (w':World):Prop:=e=.returned v∧Below w.heap.size w w'
theorem N7_ (w:World) (v:Value):Gets w v (.returned v) w:=⟨rfl,Below.refl _ w⟩
structure Met (w:World):Prop where
 lt : 8 < w.heap.size
 tab:TabAt 8 Lib.deBruijn64tab w
theorem Met.up {w w':World} (h:Met w) (hb:Below w.heap.size w w'):Met w':=⟨Nat.lt_of_lt_of_le h.lt hb.size,fun j c=>(hb.cell (p:=⟨8,j,none⟩) h.lt).trans (h.tab j c)⟩
def In31 (p:Int):Prop:=1≤p∧p≤2147483647
instance (p:Int):Decidable (In31 p):=inferInstanceAs (Decidable (_∧_))
def modI (a p:Int):Int:=if In31 p then a % p else 0
def powI (a n p:Int):Int:=if In31 p∧0≤n then (((a % p).toNat ^ n.toNat % p.toNat:Nat):Int) else 0
def PrI (p:Int):Prop:=2≤p∧p≤2147483647∧Pr p.toNat
def wit (n:Nat):List Nat→Bool
 | []=>true
 | w :: ws=>if n % w=0 then decide (n=w) else if stB n w then wit n ws else false
def prB (p:Int):Bool:=decide (2≤p) && decide (p≤2147483647) && wit p.toNat [2,3,5,7]
def invB (a p:Int):Bool:=prB p && !decide (modI a p=0)
def invI (a p:Int):Int:=if invB a p then powI a (p - 2) p else 0
theorem pr_of {p:Nat} (h:2≤p) (k:∀ d,d<p+1→d ∣ p→d=1∨d=p):Pr p :=
 ⟨h,fun d hd=>k d (by have:=Nat.le_of_dvd y40_ hd;omega) hd⟩
theorem pr_2:Pr 2:=pr_of q41_ q41_
theorem pr_3:Pr 3:=pr_of q41_ q41_
theorem pr_5:Pr 5:=pr_of q41_ q41_
theorem pr_7:Pr 7:=pr_of q41_ q41_
theorem Vg3 {n:Nat} (c:Pr n) (d:n<2 ^ 64) (h3:3≤n):∀ {ws:List Nat},(∀ w∈ws,Pr w)→wit n ws=true
 | [],_=>rfl
 | w :: ws,hw=>by
  have e:=hw w k40_;unfold wit;by_cases h:n % w=0
  ·rw [if_pos h]
   exact decide_eq_true (e.of_dvd c (Nat.dvd_of_mod_eq_zero h)).symm
  ·rw [if_neg h,if_pos (Xd5 c h3 d fun hd=>?_)]
   ·exact Vg3 c d h3 fun x hx=>hw x q46_
   ·obtain rfl:=c.of_dvd e hd
    exact h (Nat.mod_self n)
theorem Zq7 {n w:Nat} {ws:List Nat} (h:wit n (w :: ws)=true):n=w∨(n % w≠0∧stB n w=true∧wit n ws=true):=by
 unfold wit at h;by_cases c:n % w=0
 ·rw [if_pos c] at h
  exact .inl (of_decide_eq_true h)
 ·rw [if_neg c] at h
  rcases h2:stB n w with _ | _
  ·rw [h2] at h;cases h
  ·rw [h2,if_pos rfl] at h
   exact .inr ⟨c,rfl,h⟩
theorem Xf0 {n:Nat} (h2:2≤n) (j:n<2147483648) (h:wit n [2,3,5,7]=true):Pr n:=by
 rcases Zq7 h with rfl | ⟨q,k,h⟩
 ·exact pr_2
 rcases Zq7 h with rfl | ⟨r,m,h⟩
 ·exact pr_3
 rcases Zq7 h with rfl | ⟨s,o,h⟩
 ·exact pr_5
 rcases Zq7 h with rfl | ⟨u,p,h⟩
 ·exact pr_7
 have h3:3≤n:=y40_;have d:n<2 ^ 64:=Nat.lt_trans j q41_;have c:∀ {w:Nat},Pr w→n % w≠0→Nat.Coprime w n:=fun v e=>v.cop fun hd=>e (Nat.mod_eq_zero_of_dvd hd);have g:Nat.gcd n 210=1:=by
  rw [Nat.gcd_comm];exact (c pr_2 q).mul_left ((c pr_3 r).mul_left ((c pr_5 s).mul_left (c pr_7 u)))
 have f:=P7_ h3 d k;refine psi ⟨j,h2,⟨f,P7_ h3 d m,P7_ h3 d o,P7_ h3 d p⟩,?_⟩ g;unfold tst;rw [g,pw_eq,show 2 ^ Nat.sub n 1 % n=1 from f,k,m,o,p];rfl
theorem prB_iff {p:Int}:prB p=true↔PrI p:=by
 unfold prB PrI;rw [Bool.and_eq_true,Bool.and_eq_true,decide_eq_true_iff,decide_eq_true_iff];constructor
 ·rintro ⟨⟨c,h2⟩,h3⟩
  exact ⟨c,h2,Xf0 y40_ y40_ h3⟩
 ·rintro ⟨c,h2,h3⟩
  refine ⟨⟨c,h2⟩,?_⟩;by_cases h:p.toNat=2
  ·rw [h]
   decide
  ·refine Vg3 h3 (Nat.lt_of_le_of_lt (show p.toNat≤2147483647 by omega) q41_) y40_ fun w d=>?_
   simp only [List.mem_cons,List.not_mem_nil,or_false] at d;rcases d with rfl | rfl | rfl | rfl
   ·exact pr_2
   ·exact pr_3
   ·exact pr_5
   ·exact pr_7
theorem Vz0 {p:Int} (h:PrI p):prB p=true:=prB_iff.2 h
theorem N8_ {p:Int} (h:¬ PrI p):prB p=false:=Bool.eq_false_iff.2 fun e=>h (prB_iff.1 e)
theorem L2_ (p:Int) (w:World) (h:In31 p):Calls Tryz.prog 159 #[.int .i64 p] w fun e w'=>e=.returned (.bool true)∧w'=w:=by
 obtain ⟨c,h2⟩:=h;exact y34_
theorem Zy3 (p:Int) (w:World) (h:¬ In31 p):Calls Tryz.prog 159 #[.int .i64 p] w fun e w'=>e=.returned (.bool false)∧w'=w:=by
 by_cases c:1≤p
 ·have h2:¬ p≤2147483647:=by unfold In31 at h;omega
  have hd:decide (p≤2147483647)=false:=decide_eq_false h2;clear h;exact y34_
 ·have d:p<1:=by omega
  clear h;exact y34_
theorem Jz1 (a p:Int) (w:World) (h:¬ In31 p):Calls Tryz.prog 163 #[.int .i64 a,.int .i64 p] w fun e w'=>e=.returned (.int .i64 0)∧w'=w:=by
 go_enter Tryz.func163,Tryz.ntmps163
 go_wp2_with fail
 refine (Zy3 p _ h).mono ?_;rintro e w' ⟨rfl,rfl⟩;exact j4_
theorem Vg4 {a p:Int} (c:1≤p) (h:a.tmod p<0):a.tmod p+p=a % p:=by
 have:=Int.emod_nonneg a (show p≠0 by omega);rw [Int.tmod_eq_emod] at h ⊢;split at h
 ·omega
 ·rw [if_neg ‹_›]
  omega
theorem Yo5 {a p:Int} (c:1≤p) (h:0≤a.tmod p):a.tmod p=a % p:=by
 have:=Int.emod_lt_of_pos a (show 0<p by omega);rw [Int.tmod_eq_emod] at h ⊢;split at h
 ·rw [if_pos ‹_›]
  omega
 ·omega
theorem em_lt {a p:Int} (c:1≤p):0≤a % p∧a % p<p:=⟨Int.emod_nonneg a y40_,Int.emod_lt_of_pos a y40_⟩
theorem Zp4 (a p:Int) (w:World) (h:In31 p):Calls Tryz.prog 163 #[.int .i64 a,.int .i64 p] w fun e w'=>e=.returned (.int .i64 (a % p))∧w'=w:=by
 have c:=h.1;have h2:=h.2;have hb:=em_lt (a:=a) c;by_cases d:a.tmod p<0
 ·have j:=Vg4 c d
  exact z34_
 ·have g:0≤a.tmod p:=by omega
  have j:=Yo5 c g;exact z34_
theorem Xf1 (a p:Int) (w:World):Calls Tryz.prog 163 #[.int .i64 a,.int .i64 p] w fun e w'=>e=.returned (.int .i64 (modI a p))∧w'=w:=by
 unfold modI;by_cases h:In31 p
 ·rw [if_pos h]
  exact Zp4 a p w h
 ·rw [if_neg h]
  exact Jz1 a p w h
open Go.RowKit
theorem Yy3 (a b:Nat):(a:Int).tmod (b:Int)=((a % b:Nat):Int):=(Int.ofNat_tmod a b).symm
theorem Jz2 {a b p:Nat} (ha:a<p) (hb:b<p) (c:p≤2147483647):a * b<4611686018427387904:=by
 have:=Nat.mul_le_mul (show a≤2147483647 by omega) (show b≤2147483647 by omega);omega
theorem Vz1 {a b p:Nat} (ha:a<p) (hb:b<p) (c:p≤2147483647):wrap64 ((a:Int) * (b:Int))=((a * b:Nat):Int):=by
 have:=Jz2 ha hb c;rw [← Int.natCast_mul];unfold wrap64;omega
theorem Zj0:∀ (f x:Nat),x<2 ^ f→x<2 ^ Lib.bitLenAux f x
 | 0,x,h=>h
 | f+1,x,h=>by
  unfold Lib.bitLenAux;by_cases c:x=0
  ·rw [if_pos c,c];decide
  ·rw [if_neg c,Nat.pow_add,Nat.pow_one]
   have:=Zj0 f (x / 2) (by rw [Nat.pow_succ] at h;omega);omega
theorem Zj1:∀ (f x:Nat),Lib.bitLenAux f x≤f
 | 0,_=>Nat.le_refl _
 | f+1,x=>by
  unfold Lib.bitLenAux;have:=Zj1 f (x / 2);split<;>omega
theorem Xf2 (n:Nat) (h:n<2 ^ 64):n<2 ^ Lib.bitLen n:=Zj0 64 n h
theorem Xf3 (n:Nat):Lib.bitLen n≤64:=Zj1 64 n
theorem Vm0 {n k:Nat} (hn:n<9223372036854775808) (h:n / 2 ^ k % 2=1):(bits BinOp.and IntKind.i64 ((n:Int) / 2 ^ k) 1==1)=true:=q21_
theorem Vz2 {n k:Nat} (hn:n<9223372036854775808) (h:n / 2 ^ k % 2=0):(bits BinOp.and IntKind.i64 ((n:Int) / 2 ^ k) 1==1)=false:=q21_
theorem Yy4 {a b p c:Nat} (ha:a<p) (hb:b<p) (d:p≤2147483647) (h:a * b % p=c):(wrap64 ((a:Int) * (b:Int))).tmod (p:Int)=(c:Int):=by
 rw [Vz1 ha hb d,Yy3,h]
def pwK (x n p k:Nat):Nat:=x ^ (n % 2 ^ k) % p
def sqK (x p k:Nat):Nat:=x ^ 2 ^ k % p
theorem Vz3 (x p k:Nat):sqK x p k * sqK x p k % p=sqK x p (k+1):=by
 unfold sqK;rw [← Nat.mul_mod,← Nat.pow_add,Nat.pow_succ,Nat.mul_two]
theorem Vm1 {x n p k:Nat} (h:n / 2 ^ k % 2=1):pwK x n p k * sqK x p k % p=pwK x n p (k+1):=by
 unfold sqK pwK;rw [← Nat.mul_mod,← Nat.pow_add,Nat.mod_pow_succ,h,Nat.mul_one]
theorem Vz4 {x n p k:Nat} (h:n / 2 ^ k % 2=0):pwK x n p k=pwK x n p (k+1):=by
 unfold pwK;rw [Nat.mod_pow_succ,h,Nat.mul_zero,Nat.add_zero]
theorem Yo6 (a:Int) (n P:Nat) (w:World) (Y:1≤P) (D:P≤2147483647) (W:n≤9223372036854775807) :
  Calls Tryz.prog 165 #[.int .i64 a,.int .i64 n,.int .i64 P] w fun e w'=>e=.returned (.int .i64 ((a % P).toNat ^ n % P:Nat))∧w'=w:=by
 obtain ⟨x,o⟩:∃ x:Nat,a % (P:Int)=x:=⟨(a % P).toNat,by have:=em_lt (a:=a) (p:=P) y40_;omega⟩;have Q:x<P:=by have:=em_lt (a:=a) (p:=P) y40_;omega
 rw [o,Int.toNat_natCast];have g:In31 (P:Int):=⟨y40_,y40_⟩;have y:=hid (fun w=>Zp4 a P w g);have d:=hid (fun w=>Zp4 1 P w g);rw [o] at y;rw [show (1:Int) % (P:Int)=((1 % P:Nat):Int) from rfl] at d;clear o;obtain ⟨L,c⟩:∃ L,L=Lib.bitLen n:=⟨_,rfl⟩;have v:=hid (Tryz.bits_Len (n:Int));rw [Int.toNat_natCast,← c] at v;have B:n<2 ^ L:=by rw [c];exact Xf2 n y40_
 have T:L≤64:=by rw [c];exact Xf3 n
 have G:=hid B;clear c B;have X:¬ (n:Int)<0:=y40_;obtain ⟨r,h⟩:∃ r,r=x ^ n % P:=⟨_,rfl⟩;rw [← h];have I:=hid h;clear h;obtain ⟨F,m⟩:∃ F,F=1 % P:=⟨_,rfl⟩;rw [← m] at d;have K:=hid m;clear m
 go_enter Tryz.func165,Tryz.ntmps165
 go_wp2_with fail
 refine (L2_ _ _ g).mono ?_;rintro e Z ⟨rfl,rfl⟩
 go_wp2_with fail
 refine (d.out _).mono ?_;rintro e w2 ⟨rfl,rfl⟩
 go_wp2_with fail
 refine (y.out _).mono ?_;rintro e w3 ⟨rfl,rfl⟩
 go_wp2_with fail
 refine (v.out _ y40_ y40_).mono ?_;rintro e S ⟨rfl,rfl⟩;go_wp2
 go_loopw [7,8,25] (fun R vs q wr=>∃ k:Nat,q=.int .i64 k∧k≤L∧R=.int .i64 (pwK x n P k:Nat)∧vs=.int .i64 (sqK x P k:Nat)∧wr=S) (fun _ _ q _=>L - (intOf q).toNat)
 case atStart =>
  exact ⟨0,rfl,Nat.zero_le _,by rw [K.out];simp [pwK,Nat.mod_one],by simp [sqK,Nat.mod_eq_of_lt Q],rfl⟩
 case round =>
  obtain ⟨k,rfl,U,rfl,rfl,rfl⟩:=hrel;by_cases V:k<L
  ·have O:pwK x n P k<P:=Nat.mod_lt _ y40_
   have hs:sqK x P k<P:=Nat.mod_lt _ y40_;obtain ⟨E,hs'⟩:∃ E,E=sqK x P (k+1):=⟨_,rfl⟩;have m2:=Yy4 hs hs D ((Vz3 x P k).trans hs'.symm);have z:=hid hs';clear hs';by_cases hb:n / 2 ^ k % 2=1
   ·obtain ⟨u',j⟩:∃ u',u'=pwK x n P (k+1):=⟨_,rfl⟩
    have m1:=Yy4 O hs D ((Vm1 (x:=x) (p:=P) hb).trans j.symm);have M:=Vm0 y40_ hb;have J:=hid j;clear j hb;generalize pwK x n P k=u at *
    generalize sqK x P k=s at *
    go_wp2
    go_roundw
    case rel=>exact ⟨k+1,j41_,y40_,by rw [J.out],by rw [z.out],trivial⟩
    exact mz_
   ·have M:=Vz2 (n:=n) (k:=k) y40_ y40_
    have C:=Vz4 (x:=x) (p:=P) (n:=n) (k:=k) y40_;have H:=hid C;clear hb C;generalize sqK x P k=s at *
    go_wp2
    go_roundw
    case rel=>exact ⟨k+1,j41_,y40_,by rw [← H.out],by rw [z.out],trivial⟩
    exact mz_
  ·obtain rfl:k=L:=by omega
   have N:pwK x n P k=r:=by
    rw [I.out];unfold pwK;rw [Nat.mod_eq_of_lt G.out]
   rw [N];exact j4_
theorem Jz3 (a:Int) (n P:Nat) (w:World) (e:1≤P) (g:P≤2147483647) (d:n≤9223372036854775807) :
  Calls Tryz.prog 165 #[.int .i64 a,.int .i64 n,.int .i64 P] w (Gets w (.int .i64 ((a % P).toNat ^ n % P:Nat))) :=
 (Yo6 a n P w e g d).mono fun _ _ ⟨c,h2⟩=>⟨c,by rw [h2];exact Below.refl _ _⟩
theorem Jz4 (a n p:Int) (w:World) (h:¬ (In31 p∧0≤n)):Calls Tryz.prog 165 #[.int .i64 a,.int .i64 n,.int .i64 p] w fun e w'=>e=.returned (.int .i64 0)∧w'=w:=by
 by_cases d:n<0
 ·go_enter Tryz.func165,Tryz.ntmps165
  exact j4_
 ·have c:¬ In31 p:=fun c=>h ⟨c,y40_⟩
  go_enter Tryz.func165,Tryz.ntmps165
  go_wp2_with fail
  refine (Zy3 p _ c).mono ?_;rintro e w' ⟨rfl,rfl⟩;exact j4_
theorem Vm2 (a n p:Int) (w:World) (g:n≤9223372036854775807):Calls Tryz.prog 165 #[.int .i64 a,.int .i64 n,.int .i64 p] w fun e w'=>e=.returned (.int .i64 (powI a n p))∧w'=w:=by
 unfold powI;by_cases h:In31 p∧0≤n
 ·rw [if_pos h]
  obtain ⟨⟨d,h2⟩,c⟩:=h;obtain ⟨P,rfl⟩:∃ P:Nat,p=P:=⟨p.toNat,y40_⟩;obtain ⟨N,rfl⟩:∃ N:Nat,n=N:=⟨n.toNat,y40_⟩;exact Yo6 a N P w y40_ y40_ y40_
 ·rw [if_neg h]
  exact Jz4 a n p w h
theorem Vm3 (a n p:Int) (w:World) (d:n≤9223372036854775807):Calls Tryz.prog 165 #[.int .i64 a,.int .i64 n,.int .i64 p] w (Gets w (.int .i64 (powI a n p))) :=
 (Vm2 a n p w d).mono fun _ _ ⟨c,h2⟩=>⟨c,by rw [h2];exact Below.refl _ _⟩
open Go.RowKit
theorem Jz5 (x:Nat) (c:x<18446744073709551616) (w:World) (hM:Met w) :
  Calls Tryz.prog 186 #[.int .u64 x] w fun e w'=>e=.returned (.int .i64 (Lib.ctz 64 x))∧w'=w :=
 Any7.bits_TrailingZeros Tryz.tz27 x c w fun _=>hM.tab
theorem Vm4 (n r:Nat):sl n 0 r=false:=rfl
theorem Vm5 (n s:Nat):sl n (s+1) (n - 1)=true:=by
 unfold sl;rw [N4_,decide_eq_true (show n - 1=Nat.sub n 1 from rfl)];rfl
theorem Vm6 {n s r:Nat} (h:r≠n - 1):sl n (s+1) r=sl n s (r * r % n):=by
 rw [show sl n (s+1) r=cond (Nat.beq r (n - 1)) true (sl n s (r * r % n)) from rfl,N4_,decide_eq_false h];rfl
theorem Vm7 {n w r:Nat} (h:w ^ ((n - 1) / 2 ^ Lib.ctz 64 (n - 1)) % n=r) (c:r=1):stB n w=true:=by
 unfold stB;rw [pw_eq,N4_];rw [show w ^ Nat.div (Nat.sub n 1) (Nat.pow 2 (Lib.ctz 64 (Nat.sub n 1))) % n=1 from h.trans c];rfl
theorem Vz5 {n w r:Nat} (h:w ^ ((n - 1) / 2 ^ Lib.ctz 64 (n - 1)) % n=r) (c:r≠1):stB n w=sl n (Lib.ctz 64 (n - 1)) r:=by
 unfold stB;rw [pw_eq,N4_];rw [show w ^ Nat.div (Nat.sub n 1) (Nat.pow 2 (Lib.ctz 64 (Nat.sub n 1))) % n=r from h,decide_eq_false c];rfl
theorem Xz7 (P W:Nat) (w:World) (hM:Met w) (h3:3≤P) (F:P≤2147483647) :
  Calls Tryz.prog 160 #[.int .i64 P,.int .i64 W] w (Gets w (.bool (stB P W))):=by
 obtain ⟨s,hs⟩:∃ s,s=Lib.ctz 64 (P - 1):=⟨_,rfl⟩;have v:=hid (Jz5 (P - 1) y40_ w hM);rw [← hs] at v;obtain ⟨d,hd⟩:∃ d,d=(P - 1) / 2 ^ s:=⟨_,rfl⟩;have T:d≤P:=by rw [hd];exact Nat.le_trans (Nat.div_le_self _ _) y40_
 have S:((P - 1:Nat):Int) / 2 ^ s=(d:Int):=by
  rw [hd];simp
 obtain ⟨r,m⟩:∃ r,r=W ^ d % P:=⟨_,rfl⟩;have u:=hid (fun w=>Jz3 W d P w y40_ F y40_);have D:((W:Int) % (P:Int)).toNat ^ d % P=r:=by
  rw [m,show (W:Int) % (P:Int)=((W % P:Nat):Int) from rfl,Int.toNat_natCast];exact N3_ (G6_ W P)
 rw [D] at u;have M:r<P:=by rw [m];exact Nat.mod_lt _ y40_
 have B:r=1→stB P W=true:=fun h=>Vm7 (r:=r) (by rw [m,hd,hs]) h;have z:r≠1→stB P W=sl P s r:=fun h=>by rw [Vz5 (r:=r) (by rw [m,hd,hs]) h,hs]
 have Y:s≤64:=by rw [hs];exact Nat.le_of_lt (Lib.lowest_bit 64 (P - 1) y40_ y40_).2
 clear D m hd hs;generalize stB P W=b at *
 have R:((P:Int) - 1)=((P - 1:Nat):Int):=y40_;by_cases x:r=1
 ·have hb:=B x
  subst hb x;clear B z
  go_enter Tryz.func160,Tryz.ntmps160
  go_wp2_with fail
  refine v.out.mono ?_;rintro e O ⟨rfl,rfl⟩
  go_wp2_with fail
  refine (u.out _).mono ?_;rintro e H ⟨rfl,o⟩;go_wp2;go_ret;exact ⟨rfl,o⟩
 ·have hb:=z x
  subst hb;clear B z;obtain ⟨b,hb⟩:∃ b,b=sl P s r:=⟨_,rfl⟩;rw [← hb];have I:=hid hb;clear hb;have Q:¬ (r:Int)=1:=y40_
  go_enter Tryz.func160,Tryz.ntmps160
  go_wp2_with fail
  refine v.out.mono ?_;rintro e O ⟨rfl,rfl⟩
  go_wp2_with fail
  refine (u.out _).mono ?_;rintro e H ⟨rfl,o⟩;have Hb2:=hid o;clear o;go_wp2
  go_loopw [6,21] (fun N C wr=>∃ k g:Nat,C=.int .i64 k∧k≤s∧N=.int .i64 g∧g<P∧b=sl P (s - k) g∧wr=H) (fun _ C _=>s - (intOf C).toNat)
  case atStart=>exact ⟨0,r,rfl,Nat.zero_le _,rfl,M,I.out,rfl⟩
  case round =>
   obtain ⟨k,g,rfl,U,rfl,G,c,rfl⟩:=hrel;by_cases V:k<s
   ·obtain ⟨j,y⟩:∃ j,s - k=j+1:=⟨s - k - 1,y40_⟩
    rw [y] at c;by_cases E:g=P - 1
    ·subst E
     rw [Vm5] at c;subst c;exact j2_
    ·rw [Vm6 E] at c
     have X:¬ (g:Int)=((P - 1:Nat):Int):=y40_;obtain ⟨q,p⟩:∃ q,q=g * g % P:=⟨_,rfl⟩;have m1:=Yy4 G G F p.symm;rw [← p] at c;have L:q<P:=by rw [p];exact Nat.mod_lt _ y40_
     have K:=hid c;have J:=hid y;clear p c y;go_wp2
     go_roundw
     case rel=>exact ⟨k+1,q,j41_,y40_,rfl,L,by rw [show s - (k+1)=j by have:=J.out;omega];exact K.out,trivial⟩
     exact mz_
   ·obtain rfl:k=s:=by omega
    rw [Nat.sub_self,Vm4] at c;subst c;exact j2_
open Go.RowKit
theorem widx0 (w:World):(Instr.index 159 (.agg #[.int .i64 2,.int .i64 3,.int .i64 5,.int .i64 7]) (.int .i64 0)).run Tryz.prog w=.ok (.int .i64 2) w:=z40_
theorem widx1 (w:World):(Instr.index 159 (.agg #[.int .i64 2,.int .i64 3,.int .i64 5,.int .i64 7]) (.int .i64 1)).run Tryz.prog w=.ok (.int .i64 3) w:=z40_
theorem widx2 (w:World):(Instr.index 159 (.agg #[.int .i64 2,.int .i64 3,.int .i64 5,.int .i64 7]) (.int .i64 2)).run Tryz.prog w=.ok (.int .i64 5) w:=z40_
theorem widx3 (w:World):(Instr.index 159 (.agg #[.int .i64 2,.int .i64 3,.int .i64 5,.int .i64 7]) (.int .i64 3)).run Tryz.prog w=.ok (.int .i64 7) w:=z40_
theorem Jz6 {k:Nat} (h:k<4):∃ q:Nat,2≤q∧q≤7∧[2,3,5,7].drop k=q :: [2,3,5,7].drop (k+1)∧(k=0→q=2) ∧
  ∀ w,(Instr.index 159 (.agg #[.int .i64 2,.int .i64 3,.int .i64 5,.int .i64 7]) (.int .i64 (k:Int))).run Tryz.prog w=.ok (.int .i64 (q:Int)) w:=by
 have:k=0∨k=1∨k=2∨k=3:=y40_;rcases this with rfl | rfl | rfl | rfl
 ·exact ⟨2,q41_,q41_,rfl,fun _=>rfl,widx0⟩
 ·exact ⟨3,q41_,q41_,rfl,q41_,widx1⟩
 ·exact ⟨5,q41_,q41_,rfl,q41_,widx2⟩
 ·exact ⟨7,q41_,q41_,rfl,q41_,widx3⟩
theorem Vm8 (a b:Nat):((a:Int)==(b:Int))=decide (a=b):=by
 by_cases h:a=b
 ·subst h;simp
 ·rw [decide_eq_false h]
  simp;omega
theorem Vz6 {n q:Nat} {ws:List Nat} (h:n % q=0):wit n (q :: ws)=decide (n=q):=by
 rw [show wit n (q :: ws)=if n % q=0 then decide (n=q) else if stB n q then wit n ws else false from rfl,if_pos h]
theorem Vz7 {n q:Nat} {ws:List Nat} (h:n % q≠0) (hs:stB n q=false):wit n (q :: ws)=false:=k22_
theorem Jz7 {n q:Nat} {ws:List Nat} (h:n % q≠0) (hs:stB n q=true):wit n (q :: ws)=wit n ws:=k22_
theorem Vz8 (P:Nat) (w:World) (hM:Met w) (h2:2≤P) (H:P≤2147483647) :
  Calls Tryz.prog 133 #[.int .i64 P] w (Gets w (.bool (wit P [2,3,5,7]))):=by
 have F:In31 (P:Int):=⟨y40_,y40_⟩;obtain ⟨b,hb⟩:∃ b,b=wit P [2,3,5,7]:=⟨_,rfl⟩;rw [← hb];have D:=hid hb;clear hb;have v:=hid hM;clear hM;have N:¬ (P:Int)<2:=y40_;have J:2≤(P:Int):=y40_
 go_enter Tryz.func133,Tryz.ntmps133
 go_wp2_with fail
 refine (L2_ _ _ F).mono ?_;rintro e u ⟨rfl,rfl⟩;go_wp2
 go_loopw [15] (fun s wr=>∃ k:Nat,s=.int .i64 k∧k≤4∧b=wit P ([2,3,5,7].drop k)∧(k=0∨3≤P)∧Below u.heap.size u wr) (fun s _=>4 - (intOf s).toNat)
 case atStart=>exact ⟨0,rfl,Nat.zero_le _,D.out,.inl rfl,(Below.refl _ u).alloc (Nat.le_refl _) _⟩
 case round =>
  obtain ⟨k,rfl,L,c,h3,z⟩:=hrel;have Hbr:=hid z;clear z;by_cases G:k<4
  ·obtain ⟨q,O,Q,hd,o,K⟩:=Jz6 G
   rw [hd] at c;have R:¬ (q:Int)=0:=y40_;have B:=Yy3 P q;by_cases d:P % q=0
   ·rw [Vz6 d] at c
    rw [d] at B;have p:=hid c;clear c hd o h3 d;go_wp2;go_ret;refine ⟨congrArg (fun x=>Ending.returned (.bool x)) ?_,Hbr.out⟩;rw [p.out];exact Vm8 P q
   ·have y:3≤P:=by
     rcases h3 with rfl | h3
     ·have:=o rfl
      subst this;omega
     ·exact h3
    have g:=hid (fun w hM=>Xz7 P q w hM y H);obtain ⟨m,r⟩:∃ m,m=P % q:=⟨_,rfl⟩;rw [← r] at B;have M:¬ (m:Int)=0:=y40_;rcases hs:stB P q with _ | _
    ·rw [Vz7 d hs] at c
     rw [hs] at g;subst c;clear hd o h3 d r
     go_wp2_with fail
     refine (g.out _ (v.out.up Hbr.out)).mono ?_;rintro e I ⟨rfl,j⟩;have h:=Z0_ Hbr.out (Nat.le_refl _) j;go_wp2;go_ret;exact ⟨rfl,h⟩
    ·rw [Jz7 d hs] at c
     rw [hs] at g;have p:=hid c;clear hd o h3 d r c
     go_wp2_with fail
     refine (g.out _ (v.out.up Hbr.out)).mono ?_;rintro e I ⟨rfl,j⟩;have h:=Z0_ Hbr.out (Nat.le_refl _) j;have C:=hid h;clear j h;go_wp2
     go_roundw
     case rel=>exact ⟨k+1,j41_,y40_,p.out,.inr y,C.out⟩
     exact mz_
  ·obtain rfl:k=4:=by omega
   have E:b=true:=c;subst E;clear c;exact y15_
theorem T8_ (p:Int) (w:World) (hM:Met w):Calls Tryz.prog 133 #[.int .i64 p] w (Gets w (.bool (prB p))):=by
 by_cases h2:p<2
 ·have c:prB p=false:=N8_ fun h=>by have:=h.1;omega
  rw [c];clear c
  go_enter Tryz.func133,Tryz.ntmps133
  go_wp2;go_ret;exact N7_ _ _
 ·by_cases h3:p≤2147483647
  ·obtain ⟨P,rfl⟩:∃ P:Nat,p=P:=⟨p.toNat,y40_⟩
   have e:prB (P:Int)=wit P [2,3,5,7]:=by
    unfold prB;rw [decide_eq_true (show (2:Int)≤(P:Int) by omega),decide_eq_true h3,Int.toNat_natCast];rfl
   rw [e];exact Vz8 P w hM y40_ y40_
  ·have c:prB p=false:=N8_ fun h=>by have:=h.2.1;omega
   rw [c];clear c;have d:¬ In31 p:=fun h=>h3 h.2
   go_enter Tryz.func133,Tryz.ntmps133
   go_wp2_with fail
   refine (Zy3 p _ d).mono ?_;rintro e w' ⟨rfl,rfl⟩;go_wp2;go_ret;exact N7_ _ _
open Go.RowKit
theorem Xf4 {a p:Int} (h:prB p=false):invB a p=false:=by unfold invB;rw [h];rfl
theorem Yy5 {a p:Int} (h:prB p=true) (c:modI a p=0):invB a p=false:=by unfold invB;rw [h,c];rfl
theorem Zp5 {a p:Int} (h:prB p=true) (c:modI a p≠0):invB a p=true:=by unfold invB;rw [h,decide_eq_false c];rfl
theorem Zp6 {a p:Int} (h:invB a p=false):invI a p=0:=by unfold invI;rw [h];rfl
theorem Zp7 {a p:Int} (h:invB a p=true):invI a p=powI a (p - 2) p:=by unfold invI;rw [h];rfl
theorem Vm9 (a p:Int) (w:World) (hM:Met w):Calls Tryz.prog 140 #[.int .i64 a,.int .i64 p] w (Gets w (.tuple #[.int .i64 (invI a p),.bool (invB a p)])):=by
 have j:=hid hM;clear hM;rcases hp:prB p with _ | _
 ·have c:=Xf4 (a:=a) hp
  rw [Zp6 c,c];have d:=hid (fun w hM=>T8_ p w hM);rw [hp] at d;clear c hp
  go_enter Tryz.func140,Tryz.ntmps140
  go_wp2_with fail
  refine (d.out _ j.out).mono ?_;rintro e w1 ⟨rfl,hb1⟩;go_wp2
  go_ret2
  exact ⟨rfl,hb1⟩
 ·have d:=hid (fun w hM=>T8_ p w hM)
  rw [hp] at d;have h:=prB_iff.1 hp;have k:p≤2147483647:=h.2.1;by_cases g:modI a p=0
  ·have c:=Yy5 hp g
   rw [Zp6 c,c];have Hm:=hid (fun w=>Xf1 a p w);rw [g] at Hm;clear c hp g h
   go_enter Tryz.func140,Tryz.ntmps140
   go_wp2_with fail
   refine (d.out _ j.out).mono ?_;exact x17_
  ·have c:=Zp5 hp g
   rw [Zp7 c,c];have Hm:=hid (fun w=>Xf1 a p w);have Hw:=hid (fun w=>Vm3 a (p - 2) p w y40_);have h2:=h.1;have o:wrap64 (p - 2)=p - 2:=by unfold wrap64;omega
   generalize modI a p=m at *
   generalize powI a (p - 2) p=y at *
   clear c hp h
   go_enter Tryz.func140,Tryz.ntmps140
   go_wp2_with fail
   refine (d.out _ j.out).mono ?_;exact j9_
open Go.RowKit
theorem Vn0 {P x:Nat} (c:Pr P) (d:¬ P ∣ x):x ^ (P - 2) % P * x % P=1:=by
 have h2:=c.1;rw [Zv5 (G6_ (x ^ (P - 2)) P) rfl,← Nat.pow_succ,show (P - 2).succ=P - 1 by omega];exact fermat c d
theorem Vn1 {P x:Nat} (c:x≠0) (d:x<P):¬ P ∣ x:=fun hd=>by
 have:=Nat.le_of_dvd y40_ hd;omega
theorem Vz9 {a:Int} {P x:Nat} (h2:2≤P) (hM:P≤2147483647) (ha:a % (P:Int)=x):powI a ((P:Int) - 2) P=((x ^ (P - 2) % P:Nat):Int):=by
 unfold powI;rw [if_pos ⟨⟨y40_,y40_⟩,y40_⟩,ha,Int.toNat_natCast,Int.toNat_natCast,show ((P:Int) - 2).toNat=P - 2 by omega]
theorem Jz8 {a:Int} {P x:Nat} (d:prB (P:Int)=true) (h2:2≤P) (hM:P≤2147483647) (ha:a % (P:Int)=x) (e:x≠0) :
  invB a P=true∧invI a P=((x ^ (P - 2) % P:Nat):Int):=by
 have c:modI a P=x:=(if_pos ⟨y40_,y40_⟩:modI a P=a % P).trans ha;have hb:=Zp5 d (a:=a) (by rw [c];omega);exact ⟨hb,by rw [Zp7 hb,Vz9 h2 hM ha]⟩
end Go.Proofs.YtigobiacbficaaaGreatDoor.Wp
