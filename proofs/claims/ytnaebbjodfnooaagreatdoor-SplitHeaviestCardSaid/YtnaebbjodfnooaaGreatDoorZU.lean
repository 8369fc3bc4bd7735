/- What the calls on numbers modulo a prime give, plain; and small laws of memory that their walks use. The program's divides, Mod, walked. The program's Pow, walked. The program's passes, walked. The program's Prime, walked. The program's Inv, walked. Inverses modulo a prime, plain. -/
import Derived.Test.YtnaebbjodfnooaaGreatDoorMRun
import Derived.Test.YtnaebbjodfnooaaGreatDoorMShelf
import Derived.Test.YtnaebbjodfnooaaGreatDoorGPlaces
import Derived.WalkKit
import Derived.OwnWalk
import Derived.Laws.Cells
import Derived.Deep.Draws
import Derived.BigQuiet
import Derived.Deep.QuietTactic
import Derived.Lib.RabinKarpLaws
import Derived.Test.YtnaebbjodfnooaaGreatDoorX0A
import Derived.Test.YtnaebbjodfnooaaGreatDoorX0C
set_option maxHeartbeats 2000000
set_option maxRecDepth 100000
open Go.Lib (hid)
namespace Go.Proofs.YtnaebbjodfnooaaGreatDoor.Wp
private theorem q8_ {P:Prop} (h:P:=by
 rintro e w1 ⟨rfl,hb1⟩
 go_wp2_with fail
 refine (Hm.out _).mono ?_
 rintro e w2 ⟨rfl,rfl⟩
 go_wp2_with fail
 refine (Hw.out _).mono ?_
 rintro e w3 ⟨rfl,hb3⟩
 have hB3:=Z0_ hb1 (Nat.le_refl _) hb3
 go_wp2
 go_ret2
 exact ⟨rfl,hB3⟩):P:=h
private theorem j14_ {P:Prop} (h:P:=by
 rintro e w1 ⟨rfl,hb1⟩
 go_wp2_with fail
 refine (Hm.out _).mono ?_
 rintro e w2 ⟨rfl,rfl⟩
 go_wp2
 go_ret2
 exact ⟨rfl,hb1⟩):P:=h
end Go.Proofs.YtnaebbjodfnooaaGreatDoor.Wp
namespace Go.Proofs.YtnaebbjodfnooaaGreatDoor.Wp
open Go Go.RowKit
def Gets (w:World) (v:Value) (e:Ending) (w':World):Prop:=e=.returned v∧Below w.heap.size w w'
theorem N8_ (w:World) (v:Value):Gets w v (.returned v) w:=⟨rfl,Below.refl _ w⟩
structure Met (w:World):Prop where
 lt : 8 < w.heap.size
 tab:TabAt 8 Lib.deBruijn64tab w
theorem Met.up {w w':World} (h:Met w) (hb:Below w.heap.size w w'):Met w':=⟨Nat.lt_of_lt_of_le h.lt hb.size,fun j c=>(hb.cell (p:=⟨8,j,none⟩) h.lt).trans (h.tab j c)⟩
def In31 (p:Int):Prop:=1≤p∧p≤2147483647
instance (p:Int):Decidable (In31 p):=inferInstanceAs (Decidable (_∧_))
def modI (a p:Int):Int:=if In31 p then a % p else 0
def powI (a n p:Int):Int:=if In31 p∧0≤n then (((a % p).toNat ^ n.toNat % p.toNat:Nat):Int) else 0
def PrI (p:Int):Prop:=2≤p∧p≤2147483647∧Pr p.toNat
def wit (n:Nat):List Nat→Bool
 | []=>true
 | w :: ws=>if n % w=0 then decide (n=w) else if stB n w then wit n ws else false
def prB (p:Int):Bool:=decide (2≤p) && decide (p≤2147483647) && wit p.toNat [2,3,5,7]
def invB (a p:Int):Bool:=prB p && !decide (modI a p=0)
def invI (a p:Int):Int:=if invB a p then powI a (p - 2) p else 0
theorem pr_of {p:Nat} (h:2≤p) (k:∀ d,d<p+1→d ∣ p→d=1∨d=p):Pr p :=
 ⟨h,fun d hd=>k d (by have:=Nat.le_of_dvd x37_ hd;omega) hd⟩
theorem pr_2:Pr 2:=pr_of q38_ q38_
theorem pr_3:Pr 3:=pr_of q38_ q38_
theorem pr_5:Pr 5:=pr_of q38_ q38_
theorem pr_7:Pr 7:=pr_of q38_ q38_
theorem Vd9 {n:Nat} (c:Pr n) (d:n<2 ^ 64) (h3:3≤n):∀ {ws:List Nat},(∀ w∈ws,Pr w)→wit n ws=true
 | [],_=>rfl
 | w :: ws,hw=>by
  have e:=hw w j37_;unfold wit;by_cases h:n % w=0
  ·rw [if_pos h]
   exact decide_eq_true (e.of_dvd c (Nat.dvd_of_mod_eq_zero h)).symm
  ·rw [if_neg h,if_pos (Xa0 c h3 d fun hd=>?_)]
   ·exact Vd9 c d h3 fun x hx=>hw x x41_
   ·obtain rfl:=c.of_dvd e hd
    exact h (Nat.mod_self n)
theorem Zj5 {n w:Nat} {ws:List Nat} (h:wit n (w :: ws)=true):n=w∨(n % w≠0∧stB n w=true∧wit n ws=true):=by
 unfold wit at h;by_cases c:n % w=0
 ·rw [if_pos c] at h
  exact .inl (of_decide_eq_true h)
 ·rw [if_neg c] at h
  rcases h2:stB n w with _ | _
  ·rw [h2] at h;cases h
  ·rw [h2,if_pos rfl] at h
   exact .inr ⟨c,rfl,h⟩
theorem Xc0 {n:Nat} (v:2≤n) (j:n<2147483648) (h:wit n [2,3,5,7]=true):Pr n:=by
 rcases Zj5 h with rfl | ⟨q,k,h⟩
 ·exact pr_2
 rcases Zj5 h with rfl | ⟨r,m,h⟩
 ·exact pr_3
 rcases Zj5 h with rfl | ⟨s,o,h⟩
 ·exact pr_5
 rcases Zj5 h with rfl | ⟨u,p,h⟩
 ·exact pr_7
 have h3:3≤n:=x37_;have d:n<2 ^ 64:=Nat.lt_trans j q38_;have c:∀ {w:Nat},Pr w→n % w≠0→Nat.Coprime w n:=fun x e=>x.cop fun hd=>e (Nat.mod_eq_zero_of_dvd hd);have g:Nat.gcd n 210=1:=by
  rw [Nat.gcd_comm];exact (c pr_2 q).mul_left ((c pr_3 r).mul_left ((c pr_5 s).mul_left (c pr_7 u)))
 have f:=P6_ h3 d k;refine psi ⟨j,v,⟨f,P6_ h3 d m,P6_ h3 d o,P6_ h3 d p⟩,?_⟩ g;unfold tst;rw [g,pw_eq,show 2 ^ Nat.sub n 1 % n=1 from f,k,m,o,p];rfl
theorem prB_iff {p:Int}:prB p=true↔PrI p:=by
 unfold prB PrI;rw [Bool.and_eq_true,Bool.and_eq_true,decide_eq_true_iff,decide_eq_true_iff];constructor
 ·rintro ⟨⟨c,d⟩,h3⟩
  exact ⟨c,d,Xc0 x37_ x37_ h3⟩
 ·rintro ⟨c,d,h3⟩
  refine ⟨⟨c,d⟩,?_⟩;by_cases h:p.toNat=2
  ·rw [h]
   decide
  ·refine Vd9 h3 (Nat.lt_of_le_of_lt (show p.toNat≤2147483647 by omega) q38_) x37_ fun w e=>?_
   simp only [List.mem_cons,List.not_mem_nil,or_false] at e;rcases e with rfl | rfl | rfl | rfl
   ·exact pr_2
   ·exact pr_3
   ·exact pr_5
   ·exact pr_7
theorem Xt3 {p:Int} (h:PrI p):prB p=true:=prB_iff.2 h
theorem N9_ {p:Int} (h:¬ PrI p):prB p=false:=Bool.eq_false_iff.2 fun e=>h (prB_iff.1 e)
end Go.Proofs.YtnaebbjodfnooaaGreatDoor.Wp
namespace Go.Proofs.YtnaebbjodfnooaaGreatDoor
open Go.RowKit
namespace Wp
theorem L8_ (p:Int) (w:World) (h:In31 p):Calls Tryz.prog 166 #[.int .i64 p] w fun e w'=>e=.returned (.bool true)∧w'=w:=by
 obtain ⟨c,d⟩:=h;exact x32_
theorem Zz4 (p:Int) (w:World) (h:¬ In31 p):Calls Tryz.prog 166 #[.int .i64 p] w fun e w'=>e=.returned (.bool false)∧w'=w:=by
 by_cases d:1≤p
 ·have c:¬ p≤2147483647:=by unfold In31 at h;omega
  have hd:decide (p≤2147483647)=false:=decide_eq_false c;clear h;exact x32_
 ·have g:p<1:=by omega
  clear h;exact x32_
theorem Vu0 (a p:Int) (w:World) (h:¬ In31 p):Calls Tryz.prog 186 #[.int .i64 a,.int .i64 p] w fun e w'=>e=.returned (.int .i64 0)∧w'=w:=by
 go_enter Tryz.func186,Tryz.ntmps186
 go_wp2_with fail
 refine (Zz4 p _ h).mono ?_;rintro e w' ⟨rfl,rfl⟩;exact k3_
theorem Ve0 {a p:Int} (c:1≤p) (h:a.tmod p<0):a.tmod p+p=a % p:=by
 have:=Int.emod_nonneg a (show p≠0 by omega);rw [Int.tmod_eq_emod] at h ⊢;split at h
 ·omega
 ·rw [if_neg ‹_›]
  omega
theorem Yl7 {a p:Int} (c:1≤p) (h:0≤a.tmod p):a.tmod p=a % p:=by
 have:=Int.emod_lt_of_pos a (show 0<p by omega);rw [Int.tmod_eq_emod] at h ⊢;split at h
 ·rw [if_pos ‹_›]
  omega
 ·omega
theorem em_lt {a p:Int} (c:1≤p):0≤a % p∧a % p<p:=⟨Int.emod_nonneg a x37_,Int.emod_lt_of_pos a x37_⟩
theorem Zn2 (a p:Int) (w:World) (h:In31 p):Calls Tryz.prog 186 #[.int .i64 a,.int .i64 p] w fun e w'=>e=.returned (.int .i64 (a % p))∧w'=w:=by
 have c:=h.1;have k:=h.2;have hb:=em_lt (a:=a) c;by_cases d:a.tmod p<0
 ·have j:=Ve0 c d
  exact y32_
 ·have g:0≤a.tmod p:=by omega
  have j:=Yl7 c g;exact y32_
theorem Xc1 (a p:Int) (w:World):Calls Tryz.prog 186 #[.int .i64 a,.int .i64 p] w fun e w'=>e=.returned (.int .i64 (modI a p))∧w'=w:=by
 unfold modI;by_cases h:In31 p
 ·rw [if_pos h]
  exact Zn2 a p w h
 ·rw [if_neg h]
  exact Vu0 a p w h
open Go.RowKit
theorem Zw6 (a b:Nat):(a:Int).tmod (b:Int)=((a % b:Nat):Int):=(Int.ofNat_tmod a b).symm
theorem Vu1 {a b p:Nat} (ha:a<p) (hb:b<p) (c:p≤2147483647):a * b<4611686018427387904:=by
 have:=Nat.mul_le_mul (show a≤2147483647 by omega) (show b≤2147483647 by omega);omega
theorem Xt4 {a b p:Nat} (ha:a<p) (hb:b<p) (c:p≤2147483647):wrap64 ((a:Int) * (b:Int))=((a * b:Nat):Int):=by
 have:=Vu1 ha hb c;rw [← Int.natCast_mul];unfold wrap64;omega
theorem Zx7:∀ (f x:Nat),x<2 ^ f→x<2 ^ Lib.bitLenAux f x
 | 0,x,h=>h
 | f+1,x,h=>by
  unfold Lib.bitLenAux;by_cases c:x=0
  ·rw [if_pos c,c];decide
  ·rw [if_neg c,Nat.pow_add,Nat.pow_one]
   have:=Zx7 f (x / 2) (by rw [Nat.pow_succ] at h;omega);omega
theorem Zx8:∀ (f x:Nat),Lib.bitLenAux f x≤f
 | 0,_=>Nat.le_refl _
 | f+1,x=>by
  unfold Lib.bitLenAux;have:=Zx8 f (x / 2);split<;>omega
theorem Xc2 (n:Nat) (h:n<2 ^ 64):n<2 ^ Lib.bitLen n:=Zx7 64 n h
theorem Xc3 (n:Nat):Lib.bitLen n≤64:=Zx8 64 n
theorem Vi3 {n k:Nat} (hn:n<9223372036854775808) (h:n / 2 ^ k % 2=1):(bits BinOp.and IntKind.i64 ((n:Int) / 2 ^ k) 1==1)=true:=j17_
theorem Xt5 {n k:Nat} (hn:n<9223372036854775808) (h:n / 2 ^ k % 2=0):(bits BinOp.and IntKind.i64 ((n:Int) / 2 ^ k) 1==1)=false:=j17_
theorem Zw7 {a b p c:Nat} (ha:a<p) (hb:b<p) (d:p≤2147483647) (h:a * b % p=c):(wrap64 ((a:Int) * (b:Int))).tmod (p:Int)=(c:Int):=by
 rw [Xt4 ha hb d,Zw6,h]
def pwK (x n p k:Nat):Nat:=x ^ (n % 2 ^ k) % p
def sqK (x p k:Nat):Nat:=x ^ 2 ^ k % p
theorem Xt6 (x p k:Nat):sqK x p k * sqK x p k % p=sqK x p (k+1):=by
 unfold sqK;rw [← Nat.mul_mod,← Nat.pow_add,Nat.pow_succ,Nat.mul_two]
theorem Vi4 {x n p k:Nat} (h:n / 2 ^ k % 2=1):pwK x n p k * sqK x p k % p=pwK x n p (k+1):=by
 unfold sqK pwK;rw [← Nat.mul_mod,← Nat.pow_add,Nat.mod_pow_succ,h,Nat.mul_one]
theorem Xt7 {x n p k:Nat} (h:n / 2 ^ k % 2=0):pwK x n p k=pwK x n p (k+1):=by
 unfold pwK;rw [Nat.mod_pow_succ,h,Nat.mul_zero,Nat.add_zero]
theorem Yl8 (a:Int) (n P:Nat) (w:World) (Z:1≤P) (D:P≤2147483647) (X:n≤9223372036854775807) :
  Calls Tryz.prog 176 #[.int .i64 a,.int .i64 n,.int .i64 P] w fun e w'=>e=.returned (.int .i64 ((a % P).toNat ^ n % P:Nat))∧w'=w:=by
 obtain ⟨x,o⟩:∃ x:Nat,a % (P:Int)=x:=⟨(a % P).toNat,by have:=em_lt (a:=a) (p:=P) x37_;omega⟩;have Q:x<P:=by have:=em_lt (a:=a) (p:=P) x37_;omega
 rw [o,Int.toNat_natCast];have g:In31 (P:Int):=⟨x37_,x37_⟩;have y:=hid (fun w=>Zn2 a P w g);have d:=hid (fun w=>Zn2 1 P w g);rw [o] at y;rw [show (1:Int) % (P:Int)=((1 % P:Nat):Int) from rfl] at d;clear o;obtain ⟨L,c⟩:∃ L,L=Lib.bitLen n:=⟨_,rfl⟩;have v:=hid (Tryz.bits_Len (n:Int));rw [Int.toNat_natCast,← c] at v;have B:n<2 ^ L:=by rw [c];exact Xc2 n x37_
 have U:L≤64:=by rw [c];exact Xc3 n
 have G:=hid B;clear c B;have Y:¬ (n:Int)<0:=x37_;obtain ⟨r,h⟩:∃ r,r=x ^ n % P:=⟨_,rfl⟩;rw [← h];have I:=hid h;clear h;obtain ⟨F,m⟩:∃ F,F=1 % P:=⟨_,rfl⟩;rw [← m] at d;have K:=hid m;clear m
 go_enter Tryz.func176,Tryz.ntmps176
 go_wp2_with fail
 refine (L8_ _ _ g).mono ?_;rintro e w1 ⟨rfl,rfl⟩
 go_wp2_with fail
 refine (d.out _).mono ?_;rintro e w2 ⟨rfl,rfl⟩
 go_wp2_with fail
 refine (y.out _).mono ?_;rintro e w3 ⟨rfl,rfl⟩
 go_wp2_with fail
 refine (v.out _ x37_ x37_).mono ?_;rintro e T ⟨rfl,rfl⟩;go_wp2
 go_loopw [7,8,25] (fun R S q wr=>∃ k:Nat,q=.int .i64 k∧k≤L∧R=.int .i64 (pwK x n P k:Nat)∧S=.int .i64 (sqK x P k:Nat)∧wr=T) (fun _ _ q _=>L - (intOf q).toNat)
 case atStart =>
  exact ⟨0,rfl,Nat.zero_le _,by rw [K.out];simp [pwK,Nat.mod_one],by simp [sqK,Nat.mod_eq_of_lt Q],rfl⟩
 case round =>
  obtain ⟨k,rfl,V,rfl,rfl,rfl⟩:=hrel;by_cases W:k<L
  ·have O:pwK x n P k<P:=Nat.mod_lt _ x37_
   have hs:sqK x P k<P:=Nat.mod_lt _ x37_;obtain ⟨E,hs'⟩:∃ E,E=sqK x P (k+1):=⟨_,rfl⟩;have m2:=Zw7 hs hs D ((Xt6 x P k).trans hs'.symm);have z:=hid hs';clear hs';by_cases hb:n / 2 ^ k % 2=1
   ·obtain ⟨u',j⟩:∃ u',u'=pwK x n P (k+1):=⟨_,rfl⟩
    have m1:=Zw7 O hs D ((Vi4 (x:=x) (p:=P) hb).trans j.symm);have M:=Vi3 x37_ hb;have J:=hid j;clear j hb;generalize pwK x n P k=u at *
    generalize sqK x P k=s at *
    go_wp2
    go_roundw
    case rel=>exact ⟨k+1,y38_,x37_,by rw [J.out],by rw [z.out],trivial⟩
    exact mz_
   ·have M:=Xt5 (n:=n) (k:=k) x37_ x37_
    have C:=Xt7 (x:=x) (p:=P) (n:=n) (k:=k) x37_;have H:=hid C;clear hb C;generalize sqK x P k=s at *
    go_wp2
    go_roundw
    case rel=>exact ⟨k+1,y38_,x37_,by rw [← H.out],by rw [z.out],trivial⟩
    exact mz_
  ·obtain rfl:k=L:=by omega
   have N:pwK x n P k=r:=by
    rw [I.out];unfold pwK;rw [Nat.mod_eq_of_lt G.out]
   rw [N];exact k3_
theorem Vu2 (a:Int) (n P:Nat) (w:World) (g:1≤P) (h:P≤2147483647) (e:n≤9223372036854775807) :
  Calls Tryz.prog 176 #[.int .i64 a,.int .i64 n,.int .i64 P] w (Gets w (.int .i64 ((a % P).toNat ^ n % P:Nat))) :=
 (Yl8 a n P w g h e).mono fun _ _ ⟨c,d⟩=>⟨c,by rw [d];exact Below.refl _ _⟩
theorem Vu3 (a n p:Int) (w:World) (h:¬ (In31 p∧0≤n)):Calls Tryz.prog 176 #[.int .i64 a,.int .i64 n,.int .i64 p] w fun e w'=>e=.returned (.int .i64 0)∧w'=w:=by
 by_cases d:n<0
 ·go_enter Tryz.func176,Tryz.ntmps176
  exact k3_
 ·have c:¬ In31 p:=fun c=>h ⟨c,x37_⟩
  go_enter Tryz.func176,Tryz.ntmps176
  go_wp2_with fail
  refine (Zz4 p _ c).mono ?_;rintro e w' ⟨rfl,rfl⟩;exact k3_
theorem Vi5 (a n p:Int) (w:World) (j:n≤9223372036854775807):Calls Tryz.prog 176 #[.int .i64 a,.int .i64 n,.int .i64 p] w fun e w'=>e=.returned (.int .i64 (powI a n p))∧w'=w:=by
 unfold powI;by_cases h:In31 p∧0≤n
 ·rw [if_pos h]
  obtain ⟨⟨d,g⟩,c⟩:=h;obtain ⟨P,rfl⟩:∃ P:Nat,p=P:=⟨p.toNat,x37_⟩;obtain ⟨N,rfl⟩:∃ N:Nat,n=N:=⟨n.toNat,x37_⟩;exact Yl8 a N P w x37_ x37_ x37_
 ·rw [if_neg h]
  exact Vu3 a n p w h
theorem Vi6 (a n p:Int) (w:World) (e:n≤9223372036854775807):Calls Tryz.prog 176 #[.int .i64 a,.int .i64 n,.int .i64 p] w (Gets w (.int .i64 (powI a n p))) :=
 (Vi5 a n p w e).mono fun _ _ ⟨c,d⟩=>⟨c,by rw [d];exact Below.refl _ _⟩
open Go.RowKit
theorem Vu4 (x:Nat) (d:x<18446744073709551616) (w:World) (c:Met w) :
  Calls Tryz.prog 175 #[.int .u64 x] w fun e w'=>e=.returned (.int .i64 (Lib.ctz 64 x))∧w'=w :=
 Any7.bits_TrailingZeros Tryz.tz27 x d w fun _=>c.tab
theorem Vi7 (n r:Nat):sl n 0 r=false:=rfl
theorem Vi8 (n s:Nat):sl n (s+1) (n - 1)=true:=by
 unfold sl;rw [N3_,decide_eq_true (show n - 1=Nat.sub n 1 from rfl)];rfl
theorem Vi9 {n s r:Nat} (h:r≠n - 1):sl n (s+1) r=sl n s (r * r % n):=by
 rw [show sl n (s+1) r=cond (Nat.beq r (n - 1)) true (sl n s (r * r % n)) from rfl,N3_,decide_eq_false h];rfl
theorem Vk0 {n w r:Nat} (h:w ^ ((n - 1) / 2 ^ Lib.ctz 64 (n - 1)) % n=r) (c:r=1):stB n w=true:=by
 unfold stB;rw [pw_eq,N3_];rw [show w ^ Nat.div (Nat.sub n 1) (Nat.pow 2 (Lib.ctz 64 (Nat.sub n 1))) % n=1 from h.trans c];rfl
theorem Xt8 {n w r:Nat} (h:w ^ ((n - 1) / 2 ^ Lib.ctz 64 (n - 1)) % n=r) (c:r≠1):stB n w=sl n (Lib.ctz 64 (n - 1)) r:=by
 unfold stB;rw [pw_eq,N3_];rw [show w ^ Nat.div (Nat.sub n 1) (Nat.pow 2 (Lib.ctz 64 (Nat.sub n 1))) % n=r from h,decide_eq_false c];rfl
theorem Yt6 (P W:Nat) (w:World) (L:Met w) (h3:3≤P) (F:P≤2147483647) :
  Calls Tryz.prog 167 #[.int .i64 P,.int .i64 W] w (Gets w (.bool (stB P W))):=by
 obtain ⟨s,hs⟩:∃ s,s=Lib.ctz 64 (P - 1):=⟨_,rfl⟩;have v:=hid (Vu4 (P - 1) x37_ w L);rw [← hs] at v;obtain ⟨d,hd⟩:∃ d,d=(P - 1) / 2 ^ s:=⟨_,rfl⟩;have U:d≤P:=by rw [hd];exact Nat.le_trans (Nat.div_le_self _ _) x37_
 have T:((P - 1:Nat):Int) / 2 ^ s=(d:Int):=by
  rw [hd];simp
 obtain ⟨r,m⟩:∃ r,r=W ^ d % P:=⟨_,rfl⟩;have u:=hid (fun w=>Vu2 W d P w x37_ F x37_);have D:((W:Int) % (P:Int)).toNat ^ d % P=r:=by
  rw [m,show (W:Int) % (P:Int)=((W % P:Nat):Int) from rfl,Int.toNat_natCast];exact N4_ (G9_ W P)
 rw [D] at u;have N:r<P:=by rw [m];exact Nat.mod_lt _ x37_
 have B:r=1→stB P W=true:=fun h=>Vk0 (r:=r) (by rw [m,hd,hs]) h;have z:r≠1→stB P W=sl P s r:=fun h=>by rw [Xt8 (r:=r) (by rw [m,hd,hs]) h,hs]
 have Z:s≤64:=by rw [hs];exact Nat.le_of_lt (Lib.lowest_bit 64 (P - 1) x37_ x37_).2
 clear D m hd hs;generalize stB P W=b at *
 have S:((P:Int) - 1)=((P - 1:Nat):Int):=x37_;by_cases x:r=1
 ·have hb:=B x
  subst hb x;clear B z
  go_enter Tryz.func167,Tryz.ntmps167
  go_wp2_with fail
  refine v.out.mono ?_;rintro e Q ⟨rfl,rfl⟩
  go_wp2_with fail
  refine (u.out _).mono ?_;rintro e H ⟨rfl,o⟩;go_wp2;go_ret;exact ⟨rfl,o⟩
 ·have hb:=z x
  subst hb;clear B z;obtain ⟨b,hb⟩:∃ b,b=sl P s r:=⟨_,rfl⟩;rw [← hb];have I:=hid hb;clear hb;have R:¬ (r:Int)=1:=x37_
  go_enter Tryz.func167,Tryz.ntmps167
  go_wp2_with fail
  refine v.out.mono ?_;rintro e Q ⟨rfl,rfl⟩
  go_wp2_with fail
  refine (u.out _).mono ?_;rintro e H ⟨rfl,o⟩;have Hb2:=hid o;clear o;go_wp2
  go_loopw [6,21] (fun O C wr=>∃ k g:Nat,C=.int .i64 k∧k≤s∧O=.int .i64 g∧g<P∧b=sl P (s - k) g∧wr=H) (fun _ C _=>s - (intOf C).toNat)
  case atStart=>exact ⟨0,r,rfl,Nat.zero_le _,rfl,N,I.out,rfl⟩
  case round =>
   obtain ⟨k,g,rfl,V,rfl,G,c,rfl⟩:=hrel;by_cases X:k<s
   ·obtain ⟨j,y⟩:∃ j,s - k=j+1:=⟨s - k - 1,x37_⟩
    rw [y] at c;by_cases E:g=P - 1
    ·subst E
     rw [Vi8] at c;subst c;exact y2_
    ·rw [Vi9 E] at c
     have Y:¬ (g:Int)=((P - 1:Nat):Int):=x37_;obtain ⟨q,p⟩:∃ q,q=g * g % P:=⟨_,rfl⟩;have m1:=Zw7 G G F p.symm;rw [← p] at c;have M:q<P:=by rw [p];exact Nat.mod_lt _ x37_
     have K:=hid c;have J:=hid y;clear p c y;go_wp2
     go_roundw
     case rel=>exact ⟨k+1,q,y38_,x37_,rfl,M,by rw [show s - (k+1)=j by have:=J.out;omega];exact K.out,trivial⟩
     exact mz_
   ·obtain rfl:k=s:=by omega
    rw [Nat.sub_self,Vi7] at c;subst c;exact y2_
open Go.RowKit
theorem widx0 (w:World):(Instr.index 184 (.agg #[.int .i64 2,.int .i64 3,.int .i64 5,.int .i64 7]) (.int .i64 0)).run Tryz.prog w=.ok (.int .i64 2) w:=y37_
theorem widx1 (w:World):(Instr.index 184 (.agg #[.int .i64 2,.int .i64 3,.int .i64 5,.int .i64 7]) (.int .i64 1)).run Tryz.prog w=.ok (.int .i64 3) w:=y37_
theorem widx2 (w:World):(Instr.index 184 (.agg #[.int .i64 2,.int .i64 3,.int .i64 5,.int .i64 7]) (.int .i64 2)).run Tryz.prog w=.ok (.int .i64 5) w:=y37_
theorem widx3 (w:World):(Instr.index 184 (.agg #[.int .i64 2,.int .i64 3,.int .i64 5,.int .i64 7]) (.int .i64 3)).run Tryz.prog w=.ok (.int .i64 7) w:=y37_
theorem Vu5 {k:Nat} (h:k<4):∃ q:Nat,2≤q∧q≤7∧[2,3,5,7].drop k=q :: [2,3,5,7].drop (k+1)∧(k=0→q=2) ∧
  ∀ w,(Instr.index 184 (.agg #[.int .i64 2,.int .i64 3,.int .i64 5,.int .i64 7]) (.int .i64 (k:Int))).run Tryz.prog w=.ok (.int .i64 (q:Int)) w:=by
 have:k=0∨k=1∨k=2∨k=3:=x37_;rcases this with rfl | rfl | rfl | rfl
 ·exact ⟨2,q38_,q38_,rfl,fun _=>rfl,widx0⟩
 ·exact ⟨3,q38_,q38_,rfl,q38_,widx1⟩
 ·exact ⟨5,q38_,q38_,rfl,q38_,widx2⟩
 ·exact ⟨7,q38_,q38_,rfl,q38_,widx3⟩
theorem Vk1 (a b:Nat):((a:Int)==(b:Int))=decide (a=b):=by
 by_cases h:a=b
 ·subst h;simp
 ·rw [decide_eq_false h]
  simp;omega
theorem Xt9 {n q:Nat} {ws:List Nat} (h:n % q=0):wit n (q :: ws)=decide (n=q):=by
 rw [show wit n (q :: ws)=if n % q=0 then decide (n=q) else if stB n q then wit n ws else false from rfl,if_pos h]
theorem Xu0 {n q:Nat} {ws:List Nat} (h:n % q≠0) (hs:stB n q=false):wit n (q :: ws)=false:=q19_
theorem Vu6 {n q:Nat} {ws:List Nat} (h:n % q≠0) (hs:stB n q=true):wit n (q :: ws)=wit n ws:=q19_
theorem Xu1 (P:Nat) (w:World) (j:Met w) (K:2≤P) (I:P≤2147483647) :
  Calls Tryz.prog 147 #[.int .i64 P] w (Gets w (.bool (wit P [2,3,5,7]))):=by
 have G:In31 (P:Int):=⟨x37_,x37_⟩;obtain ⟨b,hb⟩:∃ b,b=wit P [2,3,5,7]:=⟨_,rfl⟩;rw [← hb];have E:=hid hb;clear hb;have y:=hid j;clear j;have Q:¬ (P:Int)<2:=x37_;have L:2≤(P:Int):=x37_
 go_enter Tryz.func147,Tryz.ntmps147
 go_wp2_with fail
 refine (L8_ _ _ G).mono ?_;rintro e v ⟨rfl,rfl⟩;go_wp2
 go_loopw [15] (fun u wr=>∃ k:Nat,u=.int .i64 k∧k≤4∧b=wit P ([2,3,5,7].drop k)∧(k=0∨3≤P)∧Below v.heap.size v wr) (fun u _=>4 - (intOf u).toNat)
 case atStart=>exact ⟨0,rfl,Nat.zero_le _,E.out,.inl rfl,(Below.refl _ v).alloc (Nat.le_refl _) _⟩
 case round =>
  obtain ⟨k,rfl,N,c,h3,B⟩:=hrel;have Hbr:=hid B;clear B;by_cases H:k<4
  ·obtain ⟨q,R,S,hd,p,M⟩:=Vu5 H
   rw [hd] at c;have T:¬ (q:Int)=0:=x37_;have C:=Zw6 P q;by_cases d:P % q=0
   ·rw [Xt9 d] at c
    rw [d] at C;have r:=hid c;clear c hd p h3 d;go_wp2;go_ret;refine ⟨congrArg (fun x=>Ending.returned (.bool x)) ?_,Hbr.out⟩;rw [r.out];exact Vk1 P q
   ·have z:3≤P:=by
     rcases h3 with rfl | h3
     ·have:=p rfl
      subst this;omega
     ·exact h3
    have g:=hid (fun w j=>Yt6 P q w j z I);obtain ⟨m,s⟩:∃ m,m=P % q:=⟨_,rfl⟩;rw [← s] at C;have O:¬ (m:Int)=0:=x37_;rcases hs:stB P q with _ | _
    ·rw [Xu0 d hs] at c
     rw [hs] at g;subst c;clear hd p h3 d s
     go_wp2_with fail
     refine (g.out _ (y.out.up Hbr.out)).mono ?_;rintro e J ⟨rfl,o⟩;have h:=Z0_ Hbr.out (Nat.le_refl _) o;go_wp2;go_ret;exact ⟨rfl,h⟩
    ·rw [Vu6 d hs] at c
     rw [hs] at g;have r:=hid c;clear hd p h3 d s c
     go_wp2_with fail
     refine (g.out _ (y.out.up Hbr.out)).mono ?_;rintro e J ⟨rfl,o⟩;have h:=Z0_ Hbr.out (Nat.le_refl _) o;have D:=hid h;clear o h;go_wp2
     go_roundw
     case rel=>exact ⟨k+1,y38_,x37_,r.out,.inr z,D.out⟩
     exact mz_
  ·obtain rfl:k=4:=by omega
   have F:b=true:=c;subst F;clear c;exact k11_
theorem T9_ (p:Int) (w:World) (d:Met w):Calls Tryz.prog 147 #[.int .i64 p] w (Gets w (.bool (prB p))):=by
 by_cases j:p<2
 ·have c:prB p=false:=N9_ fun h=>by have:=h.1;omega
  rw [c];clear c
  go_enter Tryz.func147,Tryz.ntmps147
  go_wp2;go_ret;exact N8_ _ _
 ·by_cases h3:p≤2147483647
  ·obtain ⟨P,rfl⟩:∃ P:Nat,p=P:=⟨p.toNat,x37_⟩
   have e:prB (P:Int)=wit P [2,3,5,7]:=by
    unfold prB;rw [decide_eq_true (show (2:Int)≤(P:Int) by omega),decide_eq_true h3,Int.toNat_natCast];rfl
   rw [e];exact Xu1 P w d x37_ x37_
  ·have c:prB p=false:=N9_ fun h=>by have:=h.2.1;omega
   rw [c];clear c;have g:¬ In31 p:=fun h=>h3 h.2
   go_enter Tryz.func147,Tryz.ntmps147
   go_wp2_with fail
   refine (Zz4 p _ g).mono ?_;rintro e w' ⟨rfl,rfl⟩;go_wp2;go_ret;exact N8_ _ _
open Go.RowKit
theorem Xc4 {a p:Int} (h:prB p=false):invB a p=false:=by unfold invB;rw [h];rfl
theorem Zw8 {a p:Int} (h:prB p=true) (c:modI a p=0):invB a p=false:=by unfold invB;rw [h,c];rfl
theorem Zn3 {a p:Int} (h:prB p=true) (c:modI a p≠0):invB a p=true:=by unfold invB;rw [h,decide_eq_false c];rfl
theorem Zn4 {a p:Int} (h:invB a p=false):invI a p=0:=by unfold invI;rw [h];rfl
theorem Zn5 {a p:Int} (h:invB a p=true):invI a p=powI a (p - 2) p:=by unfold invI;rw [h];rfl
theorem Vk2 (a p:Int) (w:World) (d:Met w):Calls Tryz.prog 183 #[.int .i64 a,.int .i64 p] w (Gets w (.tuple #[.int .i64 (invI a p),.bool (invB a p)])):=by
 have j:=hid d;clear d;rcases hp:prB p with _ | _
 ·have hB:=Xc4 (a:=a) hp
  rw [Zn4 hB,hB];have c:=hid (fun w d=>T9_ p w d);rw [hp] at c;clear hB hp
  go_enter Tryz.func183,Tryz.ntmps183
  go_wp2_with fail
  refine (c.out _ j.out).mono ?_;rintro e w1 ⟨rfl,hb1⟩;go_wp2
  go_ret2
  exact ⟨rfl,hb1⟩
 ·have c:=hid (fun w d=>T9_ p w d)
  rw [hp] at c;have h:=prB_iff.1 hp;have o:p≤2147483647:=h.2.1;by_cases g:modI a p=0
  ·have hB:=Zw8 hp g
   rw [Zn4 hB,hB];have Hm:=hid (fun w=>Xc1 a p w);rw [g] at Hm;clear hB hp g h
   go_enter Tryz.func183,Tryz.ntmps183
   go_wp2_with fail
   refine (c.out _ j.out).mono ?_;exact j14_
  ·have hB:=Zn3 hp g
   rw [Zn5 hB,hB];have Hm:=hid (fun w=>Xc1 a p w);have Hw:=hid (fun w=>Vi6 a (p - 2) p w x37_);have k:=h.1;have q:wrap64 (p - 2)=p - 2:=by unfold wrap64;omega
   generalize modI a p=m at *
   generalize powI a (p - 2) p=y at *
   clear hB hp h
   go_enter Tryz.func183,Tryz.ntmps183
   go_wp2_with fail
   refine (c.out _ j.out).mono ?_;exact q8_
open Go.RowKit
theorem Vk3 {P x:Nat} (c:Pr P) (d:¬ P ∣ x):x ^ (P - 2) % P * x % P=1:=by
 have e:=c.1;rw [Zx4 (G9_ (x ^ (P - 2)) P) rfl,← Nat.pow_succ,show (P - 2).succ=P - 1 by omega];exact fermat c d
theorem Vk4 {P x:Nat} (c:x≠0) (d:x<P):¬ P ∣ x:=fun hd=>by
 have:=Nat.le_of_dvd x37_ hd;omega
theorem Xu2 {a:Int} {P x:Nat} (c:2≤P) (d:P≤2147483647) (ha:a % (P:Int)=x):powI a ((P:Int) - 2) P=((x ^ (P - 2) % P:Nat):Int):=by
 unfold powI;rw [if_pos ⟨⟨x37_,x37_⟩,x37_⟩,ha,Int.toNat_natCast,Int.toNat_natCast,show ((P:Int) - 2).toNat=P - 2 by omega]
theorem Vu7 {a:Int} {P x:Nat} (f:prB (P:Int)=true) (c:2≤P) (d:P≤2147483647) (ha:a % (P:Int)=x) (g:x≠0) :
  invB a P=true∧invI a P=((x ^ (P - 2) % P:Nat):Int):=by
 have e:modI a P=x:=(if_pos ⟨x37_,x37_⟩:modI a P=a % P).trans ha;have hb:=Zn3 f (a:=a) (by rw [e];omega);exact ⟨hb,by rw [Zn5 hb,Xu2 c d ha]⟩
end Wp
end Go.Proofs.YtnaebbjodfnooaaGreatDoor
namespace Go.Proofs.YtnaebbjodfnooaaGreatDoor.Wp
open Go Go.RowKit
def wrongB (p x:Int):Bool:=decide (x<0∨p≤x)
def badRow (p rows:Int) (col:List Int):Bool:=decide ((col.length:Int)≠rows) || col.any (wrongB p)
def elimB (p rows:Int) (cols:List (List Int)):Bool:=prB p && decide (0≤rows∧rows≤64) && decide (cols.length≤64) && !cols.any (badRow p rows)
inductive Mat where
 | mk (t n a b:Int) (l:List (List Int)) (i:List Mat)
instance:Inhabited Mat:=⟨.mk 0 0 0 0 [] []⟩
namespace Mat
def t:Mat→Int | mk t _ _ _ _ _=>t
def n:Mat→Int | mk _ n _ _ _ _=>n
def a:Mat→Int | mk _ _ a _ _ _=>a
def b:Mat→Int | mk _ _ _ b _ _=>b
def l:Mat→List (List Int) | mk _ _ _ _ l _=>l
def i:Mat→List Mat | mk _ _ _ _ _ i=>i
end Mat
inductive Sml:Mat→Prop
 | mk {t n a b:Int} {l:List (List Int)} {i:List Mat} (h1:l.length≤1000) (h2:∀ r∈l,r.length≤1000) (h3:i.length≤1000) (h4:∀ x∈i,Sml x):Sml (.mk t n a b l i)
def nest (t:Int):Prop:=5≤t∧t≤9
instance (t:Int):Decidable (nest t):=inferInstanceAs (Decidable (_∧_))
def maxN:List Nat→Nat
 | []=>0
 | x :: r=>max x (maxN r)
theorem Yc6 {x:Nat}:∀ {l:List Nat},x∈l→x≤maxN l
 | y :: r,h=>by
  rw [List.mem_cons] at h;unfold maxN;rcases h with rfl | h
  ·omega
  ·have:=Yc6 h;omega
theorem Zb6 {k:Nat}:∀ {l:List Nat},(∀ x∈l,x≤k)→maxN l≤k
 | [],_=>Nat.zero_le _
 | y :: r,h=>by
  unfold maxN;have c:=h y j37_;have d:=Zb6 (l:=r) fun x hx=>h x x41_;omega
theorem Yc7 (a b:List Nat):maxN (a ++ b)=max (maxN a) (maxN b):=by
 induction a with
 | nil=>simp [maxN]
 | cons x r ih=>rw [List.cons_append,maxN,maxN,ih];omega
def dp:Nat→Mat→Nat
 | 0,_=>1
 | k+1,m=>if nest m.t then 1+maxN (m.i.map (dp k)) else 1
theorem Zb7 (k:Nat) (m:Mat):1≤dp k m:=by
 cases k with
 | zero=>exact Nat.le_refl _
 | succ k=>unfold dp;split<;>omega
theorem dp_le:∀ (k:Nat) (m:Mat),dp k m≤k+1
 | 0,_=>Nat.le_refl _
 | k+1,m=>by
  unfold dp;split
  ·have:maxN (m.i.map (dp k))≤k+1:=Zb6 fun x hx=>x20_
   omega
  ·omega
theorem Yl9 (k:Nat):∀ l:List Nat,maxN (l.map (min k))=min k (maxN l)
 | []=>by simp [maxN]
 | x :: r=>by
  rw [List.map_cons,maxN,maxN,Yl9 k r];omega
theorem Yc8:∀ (k:Nat) (m:Mat),dp k m=min (k+1) (dp (k+1) m)
 | 0,m=>by
  have d:=Zb7 (0+1) m;have c:dp 0 m=1:=rfl;omega
 | k+1,m=>by
  rw [dp,dp];split
  ·have h:m.i.map (dp k)=(m.i.map (dp (k+1))).map (min (k+1)):=by
    rw [List.map_map];exact List.map_congr_left fun x _=>Yc8 k x
   rw [h,Yl9];omega
  ·omega
theorem Zj6 {k:Nat} {m x:Mat} (h:nest m.t) (c:x∈m.i):dp k x+1≤dp (k+1) m:=by
 rw [dp,if_pos h];have:=Yc6 (List.mem_map_of_mem (f:=dp k) c);omega
def outB (below x:Int):Bool:=decide (x<0∨below≤x)
def numsB (l:List Int) (many below:Int):Bool:=decide ((l.length:Int)=many) && !l.any (outB below)
def row (m:Mat) (k:Nat):List Int:=m.l.getD k []
def inn (m:Mat):Mat:=m.i.getD 0 default
def tog (l:List Mat):Int:=l.foldl (fun n x=>IntKind.i64.wrap (n+x.n)) 0
def partB (m:Mat):Bool:=subB (row m 0) (allL (inn m).n)
def edgeB (A:Int) (r:List Int):Bool:=!numsB r 2 A
def fitsB (m:Mat):Bool :=
 if m.t=0 then decide (m.a≤m.n)
 else if m.t=1 then decide (1≤m.a) && !m.l.any (edgeB m.a)
 else if m.t=2 then numsB (row m 0) m.n m.a && numsB (row m 1) m.a 65
 else if m.t=3 then mayM m.a m.l
 else if m.t=4 then elimB m.b m.a m.l
 else if m.t=5 then partB m && decide (m.n=(row m 0).length)
 else if m.t=6 then partB m && decide (IntKind.i64.wrap (m.n+(row m 0).length)=(inn m).n)
 else decide (m.n=tog m.i)
structure Form where
 fa:Bool
 fb:Bool
 lists:Int
 least:Int
 most:Int
def form (t:Int):Form :=
 if t=0 then ⟨true,false,0,0,0⟩ else if t=1 then ⟨true,false,-1,0,0⟩ else if t=2 then ⟨true,false,2,0,0⟩ else if t=3 then ⟨true,false,-1,0,0⟩ else if t=4 then ⟨true,true,-1,0,0⟩
 else if t=5 then ⟨false,false,1,1,1⟩ else if t=6 then ⟨false,false,1,1,1⟩ else if t=7 then ⟨true,false,0,1,1⟩ else if t=8 then ⟨false,false,0,1,1⟩ else ⟨false,false,0,1,8⟩
def Z7_ (f:Form) (m:Mat):Bool :=
 (f.fa || decide (m.a=0)) && (f.fb || decide (m.b=0)) && decide ((m.l.length:Int)=(if f.lists=-1 then m.n else f.lists)) && decide (f.least≤(m.i.length:Int)) && decide ((m.i.length:Int)≤f.most)
def bad (m:Mat):Nat :=
 if m.t<0∨10≤m.t then 1
 else if m.n<0∨64<m.n∨m.a<0∨64<m.a then 2
 else if Z7_ (form m.t) m=false then 3
 else if fitsB m=false then 4 else 0
def ok:Nat→Mat→Bool
 | 0,_=>false
 | k+1,m=>decide (bad m=0) && m.i.all (ok k)
def chk (m:Mat):Int:=if dp 4 m=5 then 91 else if ok 4 m then 0 else 90
def deepI (m:Mat):Int:=(dp 4 m:Int)
theorem V2_ {m:Mat} (h:bad m=0):(0≤m.t∧m.t<10)∧(0≤m.n∧m.n≤64∧0≤m.a∧m.a≤64)∧Z7_ (form m.t) m=true∧fitsB m=true:=by
 unfold bad at h;split at h
 ·cases h
 split at h
 ·cases h
 split at h
 ·cases h
 split at h
 ·cases h
 rename_i h1 h2 h3 h4
 exact ⟨x37_,x37_,by simpa using h3,by simpa using h4⟩
theorem Ve1 {m:Mat} (d:0≤m.t∧m.t<10) (e:0≤m.n∧m.n≤64∧0≤m.a∧m.a≤64) (h3:Z7_ (form m.t) m=true) (c:fitsB m=true):bad m=0:=by
 unfold bad;rw [if_neg x37_,if_neg x37_,h3,c];simp
theorem takes_iff {f:Form} {m:Mat}:Z7_ f m=true↔(f.fa=true∨m.a=0)∧(f.fb=true∨m.b=0)∧(m.l.length:Int)=(if f.lists=-1 then m.n else f.lists)∧f.least≤(m.i.length:Int)∧(m.i.length:Int)≤f.most:=by
 unfold Z7_;simp only [Bool.and_eq_true,Bool.or_eq_true,decide_eq_true_iff,and_assoc]
theorem U0_ {m:Mat} (h:bad m=0) (d:¬ nest m.t):m.i=[]:=by
 obtain ⟨f,_,h3,_⟩:=V2_ h;have c:=(takes_iff.1 h3).2.2.2.2;have:(form m.t).most=0:=by
  unfold nest at d;unfold form;have:m.t=0∨m.t=1∨m.t=2∨m.t=3∨m.t=4:=x37_;rcases this with e | e | e | e | e<;>rw [e]<;>rfl
 rw [this] at c;exact List.eq_nil_of_length_eq_zero x37_
theorem Yc9:∀ {k:Nat} {m:Mat},dp k m≤k→ok (k+1) m=ok k m
 | 0,m,h=>absurd h (by have:=Zb7 0 m;omega)
 | k+1,m,h=>by
  rw [ok,ok];rcases Decidable.em (bad m=0) with hb | hb
  ·rw [decide_eq_true hb,Bool.true_and,Bool.true_and]
   rcases Decidable.em (nest m.t) with d | d
   ·rw [Bool.eq_iff_iff,List.all_eq_true,List.all_eq_true]
    have e:∀ x∈m.i,ok (k+1) x=ok k x:=fun x c=>Yc9 (by have:=Zj6 (k:=k) d c;omega);exact ⟨fun h x c=>by rw [← e x c];exact h x c,fun h x c=>by rw [e x c];exact h x c⟩
   ·rw [U0_ hb d]
    rfl
  ·rw [decide_eq_false hb]
   rfl
theorem chk_ok {m:Mat}:chk m=0↔dp 4 m≤4∧ok 4 m=true:=by
 unfold chk;have:=dp_le 4 m;split
 ·constructor
  ·intro h;cases h
  ·omega
 ·split
  ·exact ⟨fun _=>⟨x37_,by assumption⟩,fun _=>rfl⟩
  ·constructor
   ·intro h;cases h
   ·rintro ⟨_,h⟩;contradiction
open Go Go.RowKit
def SixV (w:World) (p:Addr) (v:Value):Prop :=
 ∃ x0 x1 x2 x3 x4 x5,v=.agg #[x0,x1,x2,x3,x4,x5]∧w.cell? p=some x0∧w.cell? ⟨p.block,p.off+1,none⟩=some x1∧w.cell? ⟨p.block,p.off+2,none⟩=some x2 ∧
  w.cell? ⟨p.block,p.off+3,none⟩=some x3∧w.cell? ⟨p.block,p.off+4,none⟩=some x4∧w.cell? ⟨p.block,p.off+5,none⟩=some x5
theorem SixV.below {w w':World} {B:Nat} {p:Addr} {v:Value} (h:SixV w p v) (hb:Below B w w') (c:p.block<B):SixV w' p v:=by
 obtain ⟨m,o,q,r,s,u,k,d,e,f,h3,g,j⟩:=h;exact ⟨m,o,q,r,s,u,k,(hb.cell (by exact c)).trans d,(hb.cell (by exact c)).trans e,(hb.cell (by exact c)).trans f,(hb.cell (by exact c)).trans h3,(hb.cell (by exact c)).trans g,(hb.cell (by exact c)).trans j⟩
inductive MatV (w:World) (B:Nat):Value→Mat→Prop
 | mk {t n a b:Int} {l:List (List Int)} {i:List Mat} {lv:Value} {A:Option Addr} {c:Nat} (V:Nat→Value)
   (hl:Rows2 w B lv l) (hn:i.length≤c∧c≤maxLen∧(A=none→c=0))
   (hc:∀ k,k<i.length→∃ ad:Addr,A=some ad∧ad.block<B∧SixV w (ad.add (k * 6)) (V k))
   (hi:∀ k,k<i.length→MatV w B (V k) (i.getD k default)) :
   MatV w B (.agg #[.int .i64 t,.int .i64 n,.int .i64 a,.int .i64 b,lv,.slice A i.length c]) (.mk t n a b l i)
def MatL (w:World) (B:Nat) (v:Value) (i:List Mat):Prop :=
 ∃ A c,v=.slice A i.length c∧(i.length≤c∧c≤maxLen∧(A=none→c=0)) ∧
  ∀ k,k<i.length→∃ (ad:Addr) (u:Value),A=some ad∧ad.block<B∧SixV w (ad.add (k * 6)) u∧MatV w B u (i.getD k default)
theorem MatV.open {w:World} {B:Nat} {v:Value} {m:Mat} (h:MatV w B v m) :
  ∃ e d,v=.agg #[.int .i64 m.t,.int .i64 m.n,.int .i64 m.a,.int .i64 m.b,e,d]∧Rows2 w B e m.l∧MatL w B d m.i:=by
 obtain ⟨V,hl,g,hc,hi⟩:=h;refine ⟨_,_,rfl,hl,_,_,rfl,g,fun k c=>?_⟩;obtain ⟨f,hA,hB,hs⟩:=hc k c;exact ⟨f,V k,hA,hB,hs,hi k c⟩
theorem MatV.shut {w:World} {B:Nat} {o m:Value} {t n a b:Int} {l:List (List Int)} {i:List Mat} (hl:Rows2 w B o l) (hi:MatL w B m i) :
  MatV w B (.agg #[.int .i64 t,.int .i64 n,.int .i64 a,.int .i64 b,o,m]) (.mk t n a b l i):=by
 obtain ⟨A,c,rfl,r,q⟩:=hi;have h:∀ k,∃ u,k<i.length→∃ d:Addr,A=some d∧d.block<B∧SixV w (d.add (k * 6)) u∧MatV w B u (i.getD k default):=fun k=>by
  by_cases h:k<i.length
  ·obtain ⟨d,u,e,f,h3,g⟩:=q k h
   exact ⟨u,fun _=>⟨d,e,f,h3,g⟩⟩
  ·exact ⟨.nilIface,fun p=>absurd p h⟩
 obtain ⟨V,j⟩:=Classical.axiomOfChoice h;refine .mk V hl r (fun k h=>?_) (fun k h=>?_)
 ·obtain ⟨d,e,f,h3,_⟩:=j k h
  exact ⟨d,e,f,h3⟩
 ·obtain ⟨d,_,_,_,g⟩:=j k h
  exact g
theorem MatV.bel {w w':World} {B:Nat} {v:Value} {m:Mat} (h:MatV w B v m) (hb:Below B w w'):MatV w' B v m:=by
 induction h with
 | mk V hl hn hc _ ih =>
  refine .mk V (hl.below hb) hn (fun k d=>?_) ih;obtain ⟨c,hA,hB,hs⟩:=hc k d;exact ⟨c,hA,hB,hs.below hb (by rw [Z2_];exact hB)⟩
theorem MatV.mono {w:World} {B B':Nat} {v:Value} {m:Mat} (h:MatV w B v m) (hB:B≤B'):MatV w B' v m:=by
 induction h with
 | mk V hl hn hc _ ih =>
  refine .mk V (hl.mono hB) hn (fun k d=>?_) ih;obtain ⟨c,hA,e,hs⟩:=hc k d;exact ⟨c,hA,x37_,hs⟩
theorem MatL.below {w w':World} {B:Nat} {v:Value} {i:List Mat} (h:MatL w B v i) (hb:Below B w w'):MatL w' B v i:=by
 obtain ⟨A,c,m,j,e⟩:=h;refine ⟨A,c,m,j,fun k f=>?_⟩;obtain ⟨d,u,hA,hB,hs,g⟩:=e k f;exact ⟨d,u,hA,hB,hs.below hb (by rw [Z2_];exact hB),g.bel hb⟩
theorem MatL.mono {w:World} {B B':Nat} {v:Value} {i:List Mat} (h:MatL w B v i) (hB:B≤B'):MatL w B' v i:=by
 obtain ⟨A,c,m,j,e⟩:=h;refine ⟨A,c,m,j,fun k f=>?_⟩;obtain ⟨d,u,hA,hb,hs,g⟩:=e k f;exact ⟨d,u,hA,x37_,hs,g.mono hB⟩
theorem MatV.up {w w':World} {v:Value} {m:Mat} (h:MatV w w.heap.size v m) (hb:Below w.heap.size w w'):MatV w' w'.heap.size v m:=(h.bel hb).mono hb.size
theorem MatL.up {w w':World} {v:Value} {m:List Mat} (h:MatL w w.heap.size v m) (hb:Below w.heap.size w w'):MatL w' w'.heap.size v m:=(h.below hb).mono hb.size
theorem MatL.upA {w:World} {v:Value} {m:List Mat} (h:MatL w w.heap.size v m) (o:Obj):MatL (w.alloc o) (w.alloc o).heap.size v m:=h.up ((Below.refl _ w).alloc (Nat.le_refl _) o)
theorem MatL.nil_ (w:World) (B:Nat):MatL w B (.slice none 0 0) []:=⟨none,0,rfl,⟨Nat.le_refl _,q38_,fun _=>rfl⟩,fun k c=>absurd c j37_⟩
def eS (a:Addr):Value:=.iface 203 (.pointer (some a))
def formV (f:Form):Value:=.agg #[.bool f.fa,.bool f.fb,.int .i64 f.lists,.int .i64 f.least,.int .i64 f.most]
structure Env (E:Nat→Addr) (w:World):Prop where
 tab:Met w
 gt:w.cell? ⟨1,0,none⟩=some (.iface 133 (.agg #[.pointer (some ⟨9, 69,none⟩)]))
 g0:w.cell? ⟨0,0,none⟩=some (eS (E 0))
 g1:w.cell? ⟨2,0,none⟩=some (eS (E 1))
 g2:w.cell? ⟨3,0,none⟩=some (eS (E 2))
 g3:w.cell? ⟨5,0,none⟩=some (eS (E 3))
 g4:w.cell? ⟨6,0,none⟩=some (eS (E 4))
 f0:∀ t:Nat,t<10→w.cell? ⟨4,t * 5,none⟩=some (.bool (form t).fa)
 f1:∀ t:Nat,t<10→w.cell? ⟨4,t * 5+1,none⟩=some (.bool (form t).fb)
 f2:∀ t:Nat,t<10→w.cell? ⟨4,t * 5+2,none⟩=some (.int .i64 (form t).lists)
 f3:∀ t:Nat,t<10→w.cell? ⟨4,t * 5+3,none⟩=some (.int .i64 (form t).least)
 f4:∀ t:Nat,t<10→w.cell? ⟨4,t * 5+4,none⟩=some (.int .i64 (form t).most)
 nine:9≤w.heap.size
 blk:∀ k,k≤4→∃ cs t,w.heap[(E k).block]?=some (.cells cs t (0,0))
 ne:∀ k,1≤k→k≤4→E k≠E 0
theorem L9_ {w:World} {b:Nat} {o:Obj} (h:w.heap[b]?=some o):b<w.heap.size:=by
 rcases Nat.lt_or_ge b w.heap.size with c | c
 ·exact c
 ·rw [Array.getElem?_eq_none c] at h;cases h
theorem Env.up {E:Nat→Addr} {w w':World} (h:Env E w) (hb:Below w.heap.size w w'):Env E w':=by
 have e:=h.nine;have c:∀ {g o:Nat} {v:Value},g<9→w.cell? ⟨g,o,none⟩=some v→w'.cell? ⟨g,o,none⟩=some v:=fun {g o v} hg hv=>(hb.cell (p:=⟨g,o,none⟩) (by show g<_;omega)).trans hv;exact ⟨h.tab.up hb,c q38_ h.gt,c q38_ h.g0,c q38_ h.g1,c q38_ h.g2,c q38_ h.g3,c q38_ h.g4,
  fun t d=>c q38_ (h.f0 t d),fun t d=>c q38_ (h.f1 t d),fun t d=>c q38_ (h.f2 t d),fun t d=>c q38_ (h.f3 t d),fun t d=>c q38_ (h.f4 t d),
  Nat.le_trans e hb.size,fun k f=>by
   obtain ⟨cs,t,hc⟩:=h.blk k f;exact ⟨cs,t,(hb.block _ (L9_ hc)).trans hc⟩,h.ne⟩
open Go Go.RowKit
theorem Xc5 {k:Nat} {m:Mat} (h:ok (k+1) m=true):bad m=0:=by
 rw [ok,Bool.and_eq_true] at h;exact of_decide_eq_true h.1
theorem Xu3 {k:Nat} {m x:Mat} (h:ok (k+1) m=true) (c:x∈m.i):ok k x=true:=by
 rw [ok,Bool.and_eq_true] at h;exact List.all_eq_true.1 h.2 x c
theorem X0_ {m:Mat} (h:chk m=0):bad m=0:=Xc5 (chk_ok.1 h).2
theorem chk3 {m:Mat}:chk m=0∧dp 4 m≤3↔dp 3 m≤3∧ok 3 m=true:=by
 have e:dp 3 m=min 4 (dp 4 m):=Yc8 3 m;constructor
 ·rintro ⟨h,h3⟩
  have c:dp 3 m≤3:=x37_;exact ⟨c,by rw [← Yc9 c];exact (chk_ok.1 h).2⟩
 ·rintro ⟨h,d⟩
  exact ⟨chk_ok.2 ⟨x37_,by rw [Yc9 h];exact d⟩,x37_⟩
theorem G6_ {x:Int} (c:-1000000≤x) (d:x≤1000000):IntKind.i64.wrap x=x:=x38_
theorem Xc6 {x:Int} (c:-9223372036854775808≤x) (d:x≤9223372036854775807):IntKind.i64.wrap x=x:=x38_
theorem Zz5 {m:Mat} (h:m.t=7∨m.t=8∨m.t=9):fitsB m=decide (m.n=tog m.i):=q16_
theorem within {m x:Mat} (h:chk m=0) (hx:x∈m.i):chk x=0∧dp 4 x<dp 4 m:=by
 obtain ⟨e,c⟩:=chk_ok.1 h;have hb:=Xc5 c;have hn:nest m.t:=q28_;have h3:dp 3 x+1≤dp 4 m:=Zj6 (k:=3) hn hx;obtain ⟨d,f⟩:=chk3.2 ⟨x37_,Xu3 c hx⟩;have g:dp 3 x=min 4 (dp 4 x):=Yc8 3 x;exact ⟨d,x37_⟩
theorem chk_n {m:Mat} (h:chk m=0):0≤m.n∧m.n≤64:=by
 obtain ⟨_,c,_⟩:=V2_ (X0_ h);exact ⟨c.1,c.2.1⟩
theorem Vk5 (m:Mat) (h:chk m=0):tog [m]=m.n:=by
 obtain ⟨c,d⟩:=chk_n h;show IntKind.i64.wrap (0+m.n)=_;rw [G6_ x37_ x37_];omega
theorem Xu4 (l:List Mat) (x:Mat):tog (l ++ [x])=IntKind.i64.wrap (tog l+x.n):=by
 unfold tog;rw [List.foldl_append];rfl
theorem Ve2 {l:List Mat} (h:∀ x∈l,0≤x.n∧x.n≤64) (hl:l.length≤10):0≤tog l∧tog l≤64 * l.length:=by
 have d:∀ (l:List Mat) (s:Int),(∀ x∈l,0≤x.n∧x.n≤64)→0≤s→s+64 * l.length≤1000000→s≤l.foldl (fun n x=>IntKind.i64.wrap (n+x.n)) s∧l.foldl (fun n x=>IntKind.i64.wrap (n+x.n)) s≤s+64 * l.length:=by
  intro l
  induction l with
  | nil=>intro s _ _ _;simp
  | cons x r ih =>
   intro s c e hs;have f:=c x j37_;rw [List.length_cons] at hs;rw [List.foldl_cons,G6_ x37_ x37_];have:=ih (s+x.n) (fun y hy=>c y q41_) x37_ x37_;rw [List.length_cons];omega
 have:=d l 0 h x37_ x37_;unfold tog;omega
open Go Go.RowKit
def stayL (m:Mat):List Int:=if m.t=6 then Z5_ (allL (inn m).n) (row m 0) else row m 0
def imgB (m:Mat) (s:List Int):Bool:=decide (m.t=5∨m.t=6) && decide (chk m=0) && subB s (allL m.n)
def imgM (m:Mat) (s:List Int):List Int:=s.map fun x=>(stayL m).getD x.toNat 0
def imgL (m:Mat) (s:List Int):List Int:=if imgB m s then imgM m s else []
theorem Xc7 {a b:List Int} (ha:IsSet a) (hb:IsSet b) (h:∀ x∈a,x∈b):b.length=(Z5_ b a).length+a.length:=by
 refine Zd2 (Q1_ b a) ha hb (fun x c=>((Y4_ hb ha x).1 c).2) fun x=>?_;rw [Y4_ hb ha x];constructor
 ·intro c
  by_cases d:x∈a
  ·exact .inr d
  ·exact .inl ⟨c,d⟩
 ·rintro (c | c)
  ·exact c.1
  ·exact h x c
theorem subB_iff {a b:List Int}:subB a b=true↔IsSet a∧IsSet b∧∀ x∈a,x∈b:=by
 constructor
 ·intro h
  have c:=h;unfold subB at c;rw [Bool.and_eq_true,Bool.and_eq_true] at c;have ha:=mayB_iff.1 c.1.1;have hb:=mayB_iff.1 c.1.2;exact ⟨ha,hb,(Xf8 ha hb).1 h⟩
 ·rintro ⟨ha,hb,h⟩
  exact (Xf8 ha hb).2 h
theorem Zw9 {n:Int} (c:0≤n) (d:n≤64):((allL n).length:Int)=n:=by
 by_cases h:1≤n
 ·exact (Yw5 n).2 h x37_
 ·have:n=0:=by omega
  subst this;rfl
theorem D7_ {m:Mat} (h:chk m=0) (c:m.t=5∨m.t=6):m.l.length=1∧m.i.length=1:=by
 have h3:=takes_iff.1 (V2_ (X0_ h)).2.2.1;rcases c with e | e
 ·exact q13_
 ·exact q13_
theorem Xc8 {m:Mat} (h:0<m.i.length):inn m∈m.i:=by
 unfold inn;rw [show m.i.getD 0 default=m.i[0] by simp [List.getD,h]];exact List.getElem_mem h
theorem U1_ {m:Mat} (h:chk m=0) (f:m.t=5∨m.t=6):((stayL m).length:Int)=m.n:=by
 have c:=(V2_ (X0_ h)).2.2.2;have hl:=D7_ h f;have hi:=chk_n (within h (Xc8 (m:=m) x37_)).1;have r:=chk_n h;rcases f with e | e
 ·have d:fitsB m=(partB m && decide (m.n=(row m 0).length)):=y19_
  rw [d,Bool.and_eq_true] at c;unfold stayL;rw [if_neg x37_];exact (of_decide_eq_true c.2).symm
 ·have d:fitsB m=(partB m && decide (IntKind.i64.wrap (m.n+(row m 0).length)=(inn m).n)):=q17_
  rw [d,Bool.and_eq_true] at c;obtain ⟨g,j,k⟩:=subB_iff.1 c.1;have q:=Xc7 g j k;have p:=Zw9 hi.1 hi.2;have o:=of_decide_eq_true c.2;unfold stayL;rw [if_pos e];rw [Xc6 x37_ x37_] at o;omega
theorem Ym0 {m:Mat} {s:List Int} (h:chk m=0) (hs:subB s (allL m.n)=true):∀ k,k<s.length→0≤s.getD k 0∧s.getD k 0<m.n:=by
 intro k c;have e:=chk_n h;obtain ⟨_,_,h3⟩:=subB_iff.1 hs;have d:=h3 (s.getD k 0) (by rw [show s.getD k 0=s[k] by simp [List.getD,c]];exact List.getElem_mem c);exact (K0_ e.1 x37_ _).1 d
theorem Zz6 (m:Mat) (s:List Int):(imgM m s).length=s.length:=by simp [imgM]
theorem Ym1 (m:Mat) (s:List Int) (k:Nat) (c:k<s.length):(imgM m s).getD k 0=(stayL m).getD (s.getD k 0).toNat 0:=by
 simp [imgM,List.getD,c]
def fillM (f:List Int) (n k:Nat):Array Value:=(ints (f.take k ++ List.replicate (n - k) 0)).toArray
theorem Zh6 {f:List Int} {n k:Nat} (c:f.length=n) (h:k≤n):(fillM f n k).size=n:=by
 simp [fillM,Z9_];omega
theorem Yz0 {f:List Int} {n k:Nat} (c:f.length=n) (h:k<n):(fillM f n k).setIfInBounds k (.int .i64 (f.getD k 0))=fillM f n (k+1):=by
 unfold fillM;rw [List.setIfInBounds_toArray];congr 1;have d:f.take (k+1)=f.take k ++ [f.getD k 0]:=by
  rw [List.take_succ_eq_append_getElem x37_];simp [List.getD,c,h]
 rw [d,X5_,X5_,X5_,List.append_assoc];have e:List.replicate (n - k) (0:Int)=0 :: List.replicate (n - (k+1)) 0:=by
  rw [show n - k=(n - (k+1))+1 from by omega,List.replicate_succ]
 have hl:(ints (f.take k)).length=k:=by rw [Z9_,List.length_take];omega
 rw [e,List.set_append_right _ _ x37_,hl,Nat.sub_self];rfl
theorem Zh7 (f:List Int) (n:Nat):fillM f n 0=filled n 0:=by simp [fillM,filled,upTo]
theorem Xc9 {f:List Int} {n:Nat} (c:f.length=n):fillM f n n=(ints f).toArray:=by
 unfold fillM;rw [Nat.sub_self,List.replicate_zero,List.append_nil,← c,List.take_length]
theorem Yz1 {w:World} {g n:Nat} {f:List Int} (c:f.length=n) (h:Blk w g 3 (fillM f n n)) (d:n≤maxLen):Row w w.heap.size (.slice (some ⟨g,0,none⟩) n n) f:=by
 rw [Xc9 c] at h;refine ⟨_,n,by rw [c],⟨x37_,d,fun e=>by cases e⟩,fun k hk=>⟨_,rfl,h.lt,?_⟩⟩;exact k16_
open Go Go.RowKit
theorem Zn6 {n:Int} {l:List Int} (h:okA n l=true):IsSet l∧∀ x∈l,0≤x∧x<n:=by
 unfold okA at h;rw [Bool.and_eq_true] at h;have hs:=mayB_iff.1 h.1;refine ⟨hs,fun x d=>⟨(hs.2 x d).1,?_⟩⟩;obtain ⟨i,hi,rfl⟩:=List.mem_iff_getElem.1 d;rw [Bool.or_eq_true,decide_eq_true_iff,decide_eq_true_iff] at h;rcases h.2 with c | c
 ·omega
 ·have hl:l.length - 1<l.length:=by omega
  rw [show l.getD (l.length - 1) 0=l[l.length - 1] by simp [List.getD,hl]] at c;by_cases e:i=l.length - 1
  ·subst e
   exact c
  ·have:=List.pairwise_iff_getElem.1 hs.1 i (l.length - 1) hi hl x37_
   omega
theorem Yd0 {n:Int} {l:List Int} (c:0≤n) (e:n≤64) (hs:IsSet l) (h:∀ x∈l,0≤x∧x<n):subB l (allL n)=true :=
 subB_iff.2 ⟨hs,F7_ n,fun x d=>(K0_ c x37_ x).2 (h x d)⟩
theorem Vk6 {n:Int} {l:List Int} (d:0≤n) (c:n≤64) (hs:IsSet l) (h:∀ x∈l,0≤x∧x<n):n=(Z5_ (allL n) l).length+l.length:=by
 have e:=Xc7 hs (F7_ n) (subB_iff.1 (Yd0 d c hs h)).2.2;have f:=Zw9 d c;omega
section
variable {m:Mat} {l:List Int} (hc:chk m=0) (h3:dp 4 m≤3) (hs:IsSet l) (hl:∀ x∈l,0≤x∧x<m.n)
include hc h3 hs hl
end
end Go.Proofs.YtnaebbjodfnooaaGreatDoor.Wp
