/- Strong witnesses 2, 3, 5 and 7 below 2 to the 31: no number that is no prime passes with all four. By enumeration: a number that passes leaves 1 modulo the orders of each prime that divides it. Nothing of the program here. -/
import Derived.Test.YtigobiacbficaaaGreatDoorMPure
import Derived.Lib.TrailingZeros
import Derived.Test.YtigobiacbficaaaGreatDoorX0A
namespace Go.Proofs.YtigobiacbficaaaGreatDoor.Wp
def pws (k a n r d:Nat):Nat:=Nat.mod (Nat.mul (Nat.pow r k) (Nat.pow a d)) n
def pw (a e n:Nat):Nat :=
 pws 256 a n (pws 256 a n (pws 256 a n (Nat.pow a (Nat.div e 16777216)) (Nat.mod (Nat.div e 65536) 256)) (Nat.mod (Nat.div e 256) 256)) (Nat.mod e 256)
theorem Vg1 {k a n r d x:Nat} (h:r % n=a ^ x % n):pws k a n r d=a ^ (x * k+d) % n:=by
 show r ^ k * a ^ d % n=_;rw [Zv5 (N3_ h) rfl,← Nat.pow_mul,Nat.pow_add]
theorem Yn2 {k a n r d x:Nat} (h:r=a ^ x % n):pws k a n r d=a ^ (x * k+d) % n:=Vg1 (by rw [h,Nat.mod_mod])
theorem pw_eq (a e n:Nat):pw a e n=a ^ e % n:=by
 have h:=Vg1 (k:=256) (a:=a) (n:=n) (r:=Nat.pow a (Nat.div e 16777216)) (d:=Nat.mod (Nat.div e 65536) 256) (x:=Nat.div e 16777216) rfl;have h2:=Yn2 (k:=256) (d:=Nat.mod (Nat.div e 256) 256) h;have h3:=Yn2 (k:=256) (d:=Nat.mod e 256) h2;unfold pw;rw [h3];congr 2;show ((e / 16777216 * 256+e / 65536 % 256) * 256+e / 256 % 256) * 256+e % 256=e;have c:∀ x:Nat,x / 256 * 256+x % 256=x:=fun x=>Nat.div_add_mod' x 256;have f:e / 256 / 256=e / 65536:=Nat.div_div_eq_div_mul e 256 256;have g:e / 65536 / 256=e / 16777216:=Nat.div_div_eq_div_mul e 65536 256;rw [← g,c,← f,c,c]
def sB (q e:Nat):Bool:=cond (Nat.beq (pw 2 e q) 1) (cond (Nat.beq (pw 3 e q) 1) (cond (Nat.beq (pw 5 e q) 1) (Nat.beq (pw 7 e q) 1) false) false) false
theorem N4_ (a b:Nat):Nat.beq a b=decide (a=b):=by
 rcases h:Nat.beq a b with _ | _
 ·exact (decide_eq_false (Nat.ne_of_beq_eq_false h)).symm
 ·exact (decide_eq_true (Nat.eq_of_beq_eq_true h)).symm
theorem Vw5 (a b:Nat):Nat.ble a b=decide (a≤b):=by
 rcases h:Nat.ble a b with _ | _
 ·refine (decide_eq_false fun c=>?_).symm
  rw [Nat.ble_eq_true_of_le c] at h;cases h
 ·exact (decide_eq_true (Nat.le_of_ble_eq_true h)).symm
theorem sB_iff {q e:Nat}:sB q e=true↔SQ q e:=by
 unfold sB;simp only [N4_,pw_eq];constructor
 ·intro h
  by_cases c:2 ^ e % q=1
  ·by_cases h2:3 ^ e % q=1
   ·by_cases h3:5 ^ e % q=1
    ·by_cases d:7 ^ e % q=1
     ·exact ⟨c,h2,h3,d⟩
     ·simp [c,h2,h3,d] at h
    ·simp [c,h2,h3] at h
   ·simp [c,h2] at h
  ·simp [c] at h
 ·rintro ⟨c,h2,h3,d⟩
  simp [c,h2,h3,d]
def tr (q L:Nat):Nat→Nat→Nat→Bool
 | 0,_,_=>false
 | f+1,d,R=>cond (Nat.ble (Nat.mul d d) R) (cond (Nat.beq (Nat.mod R d) 0) (cond (sB q (Nat.div L d)) false (tr q L f d (Nat.div R d))) (tr q L f (Nat.add d 1) R)) (cond (Nat.beq R 1) true (cond (sB q (Nat.div L R)) false true))
theorem Yd9 {q L:Nat}:∀ {f d R:Nat},tr q L f d R=true→2≤d→1≤R→(∀ r,Pr r→r ∣ R→d≤r)→∀ r,Pr r→r ∣ R→sB q (L / r)=false
 | 0,_,_,h,_,_,_,_,_,_=>by cases h
 | f+1,d,R,h,hd,hR,hl,r,hr,hrR=>by
  unfold tr at h;simp only [N4_] at h;rw [Vw5,show Nat.mul d d=d * d from rfl] at h;by_cases o:d * d≤R
  ·simp only [o,decide_true,cond_true] at h
   by_cases h2:R % d=0
   ·rw [show Nat.mod R d=R % d from rfl,decide_eq_true h2,cond_true] at h
    rcases h3:sB q (Nat.div L d) with _ | _
    ·rw [h3,cond_false] at h
     by_cases p:r ∣ d
     ·have g:=hl r hr hrR
      have u:=Nat.le_of_dvd y40_ p;obtain rfl:r=d:=y40_;exact h3
     ·have y:d ∣ R:=Nat.dvd_of_mod_eq_zero h2
      obtain ⟨c,rfl⟩:=y;have hc:Nat.div (d * c) d=c:=Nat.mul_div_cancel_left c y40_;rw [hc] at h;have m:1≤c:=by
       rcases Nat.eq_zero_or_pos c with e | e
       ·subst e;simp at hR
       ·exact e
      refine Yd9 h hd m (fun x j k=>hl x j (Nat.dvd_trans k (Nat.dvd_mul_left c d))) r hr ?_;rcases hr.mul hrR with g | g
      ·exact absurd g p
      ·exact g
    ·rw [h3,cond_true] at h
     cases h
   ·rw [show Nat.mod R d=R % d from rfl,decide_eq_false h2,cond_false] at h
    refine Yd9 (d:=d+1) h y40_ hR (fun x j s=>?_) r hr hrR;have g:=hl x j s;have u:x≠d:=by rintro rfl;exact h2 (Nat.mod_eq_zero_of_dvd s)
    omega
  ·rw [decide_eq_false o,cond_false] at h
   by_cases h2:R=1
   ·subst h2
    have:=Nat.le_of_dvd y40_ hrR;have:=hr.1;omega
   ·rw [decide_eq_false h2,cond_false] at h
    obtain ⟨c,hc⟩:=hrR;have z:=hl r hr ⟨c,hc⟩;have m:c=1:=by
     rcases Nat.lt_or_ge c 2 with B | A
     ·exact j27_
     ·obtain ⟨x,j,k⟩:=Yz3 A
      have v:=hl x j (by rw [hc];exact Nat.dvd_trans k (Nat.dvd_mul_left c r));have w:=Nat.le_of_dvd y40_ k;have:=Nat.mul_le_mul z (Nat.le_trans v w);omega
    subst m;rw [Nat.mul_one] at hc;subst hc;rcases h3:sB q (Nat.div L R) with _ | _
    ·rfl
    ·rw [h3,cond_true] at h
     cases h
def okL (q L:Nat):Bool:=cond (Nat.ble 1 L) (cond (sB q L) (tr q L 500 2 L) false) false
theorem Zo4 {q L e:Nat} (f:2≤q) (h:okL q L=true) (m:SQ q e):L ∣ e:=by
 unfold okL at h;rcases h0:Nat.ble 1 L with _ | _
 ·rw [h0] at h;cases h
 rw [h0,cond_true] at h;rcases h1:sB q L with _ | _
 ·rw [h1] at h;cases h
 rw [h1,cond_true] at h;have j:1≤L:=Nat.le_of_ble_eq_true h0;have o:=m.gcd f (sB_iff.1 h1);have p:=Nat.gcd_dvd_right e L;obtain ⟨c,hc⟩:=p;have k:c=1:=by
  rcases Nat.lt_or_ge c 2 with z | s
  ·exact j27_
  ·obtain ⟨x,g,y,w⟩:=Yz3 s
   have A:=g.1;have d:L=x * (Nat.gcd e L * y):=by
    refine hc.trans ?_;rw [w,← Nat.mul_assoc,← Nat.mul_assoc,Nat.mul_comm x]
   have v:x ∣ L:=⟨_,d⟩;have h2:=Yd9 h (Nat.le_refl 2) j (fun r u _=>u.1) x g v;have h3:SQ q (L / x):=by
    refine o.dvd f ⟨y,?_⟩;exact Nat.div_eq_of_eq_mul_right y40_ d
   rw [sB_iff.2 h3] at h2;cases h2
 rw [k,Nat.mul_one] at hc;exact hc▸Nat.gcd_dvd_left e L
def sl (n:Nat):Nat→Nat→Bool
 | 0,_=>false
 | s+1,r=>cond (Nat.beq r (Nat.sub n 1)) true (sl n s (Nat.mod (Nat.mul r r) n))
def stB (n w:Nat):Bool:=cond (Nat.beq (pw w (Nat.div (Nat.sub n 1) (Nat.pow 2 (Lib.ctz 64 (Nat.sub n 1)))) n) 1) true (sl n (Lib.ctz 64 (Nat.sub n 1)) (pw w (Nat.div (Nat.sub n 1) (Nat.pow 2 (Lib.ctz 64 (Nat.sub n 1)))) n))
def tst (n:Nat):Bool:=cond (Nat.beq (Nat.gcd n 210) 1) (cond (Nat.beq (pw 2 (Nat.sub n 1) n) 1) (cond (stB n 2) (cond (stB n 3) (cond (stB n 5) (stB n 7) false) false) false) false) false
theorem Yz5 {x:Nat} (f:x≠0) (h:x<2 ^ 64):∃ d,x=2 ^ Lib.ctz 64 x * d∧x / 2 ^ Lib.ctz 64 x=d∧d % 2=1:=by
 obtain ⟨m,c,_⟩:=Lib.ctzFrom_spec 64 x y40_ h;have e:Lib.ctz 64 x=Lib.ctzFrom 64 x:=by simp [Lib.ctz,f]
 rw [e];refine ⟨2 * m+1,c,?_,y40_⟩;exact Nat.div_eq_of_eq_mul_right (Nat.pow_pos q41_) c
theorem Yz6 {n:Nat} (d:3≤n):∀ {s r:Nat},sl n s r=true→r ^ 2 ^ s % n=1
 | 0,_,h=>by cases h
 | s+1,r,h=>by
  unfold sl at h;rw [N4_] at h;have e:r ^ 2 ^ (s+1)=(r * r) ^ 2 ^ s:=by
   rw [Nat.pow_succ,Nat.mul_comm,Nat.pow_mul,Nat.pow_two]
  by_cases c:r=n - 1
  ·have f:r * r % n=1 % n:=by
    obtain ⟨m,rfl⟩:∃ m,n=m+1:=⟨n - 1,y40_⟩;obtain rfl:r=m:=y40_;have:r * r=1+(r+1) * (r - 1):=by
     obtain ⟨k,rfl⟩:∃ k,r=k+1:=⟨r - 1,y40_⟩;simp only [Nat.add_mul,Nat.mul_add,Nat.add_sub_cancel];omega
    rw [this,Nat.add_mul_mod_self_left]
   rw [e,N3_ f,Nat.one_pow];exact k25_
  ·rw [show Nat.sub n 1=n - 1 from rfl,decide_eq_false c,cond_false] at h
   have g:=Yz6 d h;rw [e,← g];exact N3_ (G6_ (r * r) n).symm
theorem P7_ {n w:Nat} (f:3≤n) (g:n<2 ^ 64) (h:stB n w=true):w ^ (n - 1) % n=1:=by
 obtain ⟨d,c,h2,_⟩:=Yz5 (x:=n - 1) y40_ y40_;unfold stB at h;rw [show Nat.div (Nat.sub n 1) (Nat.pow 2 (Lib.ctz 64 (Nat.sub n 1)))=d from h2,pw_eq,N4_] at h;have e:w ^ (n - 1)=(w ^ d) ^ 2 ^ Lib.ctz 64 (n - 1):=by
  rw [← Nat.pow_mul,Nat.mul_comm d];exact congrArg (w ^ ·) c
 by_cases h3:w ^ d % n=1
 ·rw [e,N3_ (b:=1) (by rw [h3];exact (Nat.mod_eq_of_lt y40_).symm),Nat.one_pow]
  exact k25_
 ·rw [decide_eq_false h3,cond_false] at h
  rw [e];exact (N3_ (G6_ (w ^ d) n).symm).trans (Yz6 f h)
theorem Yn3 {p:Nat} (c:Pr p):∀ {s r:Nat},r<p→r≠1→r ^ 2 ^ s % p=1→sl p s r=true
 | 0,r,hr,h1,h=>by
  simp at h;rw [Nat.mod_eq_of_lt hr] at h;exact absurd h h1
 | s+1,r,hr,h1,h=>by
  have f:=c.1;unfold sl;rw [N4_];by_cases h2:r=p - 1
  ·rw [show Nat.sub p 1=p - 1 from rfl,decide_eq_true h2]
   rfl
  ·rw [show Nat.sub p 1=p - 1 from rfl,decide_eq_false h2,cond_false]
   have e:r ^ 2 ^ (s+1)=(r * r) ^ 2 ^ s:=by
    rw [Nat.pow_succ,Nat.mul_comm,Nat.pow_mul,Nat.pow_two]
   refine Yn3 c (Nat.mod_lt _ y40_) (fun d=>?_) ?_
   ·rcases Xu5 c hr d with h3 | h3
    ·exact h1 h3
    ·exact h2 h3
   ·show (r * r % p) ^ 2 ^ s % p=1
    rw [← h,e];exact N3_ (G6_ (r * r) p)
theorem Xd5 {p w:Nat} (c:Pr p) (j:3≤p) (h:p<2 ^ 64) (g:¬ p ∣ w):stB p w=true:=by
 obtain ⟨d,f,h2,_⟩:=Yz5 (x:=p - 1) y40_ y40_;unfold stB;rw [show Nat.div (Nat.sub p 1) (Nat.pow 2 (Lib.ctz 64 (Nat.sub p 1)))=d from h2,pw_eq,N4_];have e:w ^ (p - 1)=(w ^ d) ^ 2 ^ Lib.ctz 64 (p - 1):=by
  rw [← Nat.pow_mul,Nat.mul_comm d];exact congrArg (w ^ ·) f
 by_cases h3:w ^ d % p=1
 ·rw [decide_eq_true h3];rfl
 ·rw [decide_eq_false h3,cond_false]
  refine Yn3 c (Nat.mod_lt _ y40_) h3 ?_;rw [N3_ (G6_ (w ^ d) p)];have:=fermat c g;rw [e] at this;exact this
def rng (f:Nat→Bool):Nat→Nat→Bool
 | 0,lo=>f lo
 | d+1,lo=>cond (rng f d lo) (rng f d (lo+2 ^ d)) false
theorem B6_ {f:Nat→Bool}:∀ {d lo:Nat},rng f d lo=true→∀ x,lo≤x→x<lo+2 ^ d→f x=true
 | 0,lo,h,x,h1,h2=>by
  obtain rfl:x=lo:=by simp at h2;omega
  exact h
 | d+1,lo,h,x,h1,h2=>by
  unfold rng at h;rcases h3:rng f d lo with _ | _
  ·rw [h3] at h;cases h
  ·rw [h3,cond_true] at h
   rw [Nat.pow_succ] at h2;by_cases c:x<lo+2 ^ d
   ·exact B6_ h3 x h1 c
   ·exact B6_ h x y40_ y40_
theorem V5_ {f:Nat→Bool} {d lo c:Nat} (g:rng f d lo=true) (h2:rng f d c=true) (e:lo+2 ^ d=c):rng f (d+1) lo=true:=by
 unfold rng;rw [g,e,h2];rfl
def ks (q L:Nat):Nat→Bool
 | 0=>true
 | k+1=>cond (tst (Nat.mul q (Nat.add 1 (Nat.mul (Nat.succ k) L)))) false (ks q L k)
theorem Xd6 {q L:Nat}:∀ {c:Nat},ks q L c=true→∀ k,1≤k→k≤c→tst (q * (1+k * L))=false
 | 0,_,k,h1,h2=>by omega
 | c+1,h,k,h1,h2=>by
  unfold ks at h;rcases h3:tst (Nat.mul q (Nat.add 1 (Nat.mul (Nat.succ c) L))) with _ | _
  ·rw [h3,cond_false] at h
   by_cases d:k=c+1
   ·subst d;exact h3
   ·exact Xd6 h k h1 y40_
  ·rw [h3] at h;cases h
def lower (q L r:Nat):Nat:=cond (Nat.beq (Nat.mod L r) 0) (cond (sB q (Nat.div L r)) (Nat.div L r) L) L
def findL (q:Nat):Nat:=lower q (lower q (lower q (lower q (lower q (Nat.sub q 1) 2) 2) 2) 3) 5
def chkL (q L:Nat):Bool:=cond (okL q L) (ks q L (Nat.div (Nat.sub (Nat.div 2147483647 q) 1) L)) false
def Alone (q:Nat):Prop:=∀ n,n<2147483648→q ∣ n→q≠n→1≤n→SQ n (n - 1)→tst n=false
theorem Yn4 {q L:Nat} (d:Pr q) (j:Nat.gcd q 210=1) (h:chkL q L=true):Alone q:=by
 rintro n v ⟨m,rfl⟩ r f hs;have h2:=d.1;have p:1≤m:=by
  rcases Nat.eq_zero_or_pos m with e | e
  ·subst e;simp at f
  ·exact e
 unfold chkL at h;rcases h3:okL q L with _ | _
 ·rw [h3] at h;cases h
 rw [h3,cond_true] at h;obtain ⟨k,c⟩:=Zo4 h2 h3 (hs.cofactor d j p);have s:m≠1:=by rintro rfl;simp at r
 have g:1≤L:=by
  rcases Nat.eq_zero_or_pos L with e | e
  ·subst e;simp at c;omega
  ·exact e
 have e:m=1+k * L:=by rw [Nat.mul_comm];omega
 have o:1≤k:=by
  rcases Nat.eq_zero_or_pos k with e | e
  ·subst e;simp at c;omega
  ·exact e
 rw [e];refine Xd6 h k o ?_;have u:m≤2147483647 / q:=(Nat.le_div_iff_mul_le y40_).2 (by rw [Nat.mul_comm];omega);refine (Nat.le_div_iff_mul_le g).2 ?_;show k * L≤2147483647 / q - 1;rw [Nat.mul_comm];omega
def prim:Nat:=64266330917908644872330635228106713310880186591609208114244758680898150367880703152525200743234420230
theorem Vk4:prim=prodL [2,3,5,7,11,13,17,19,23,29,31,37,41,43,47,53,59,61,67,71,73,79,83,89,97,101,103,107,109,113,127,131,137,139,149,151,157,163,167,173,179,181,191,193,197,199,211,223,227,229,233,239,241,251]:=q42_
theorem Xu6:∀ x∈[2,3,5,7,11,13,17,19,23,29,31,37,41,43,47,53,59,61,67,71,73,79,83,89,97,101,103,107,109,113,127,131,137,139,149,151,157,163,167,173,179,181,191,193,197,199,211,223,227,229,233,239,241,251],1≤x∧x≤251:=q42_
def chkq (q:Nat):Bool:=cond (Nat.ble 1000 q) (cond (Nat.beq (Nat.gcd q prim) 1) (chkL q (findL q)) true) true
theorem Yw6 {q:Nat} (c:Pr q) (d:1000≤q) (h:chkq q=true):Alone q:=by
 have j:∀ x∈[2,3,5,7,11,13,17,19,23,29,31,37,41,43,47,53,59,61,67,71,73,79,83,89,97,101,103,107,109,113,127,131,137,139,149,151,157,163,167,173,179,181,191,193,197,199,211,223,227,229,233,239,241,251],¬ q ∣ x:=by
  intro x k hd;have hb:=Xu6 x k;have m:=Nat.le_of_dvd y40_ hd;omega
 have g:Nat.gcd q prim=1:=by
  rcases c.2 _ (Nat.gcd_dvd_left q prim) with e | e
  ·exact e
  ·have hd:=Nat.gcd_dvd_right q prim
   rw [e,Vk4] at hd;exact absurd hd (c.not_prod j)
 have f:Nat.gcd q 210=1:=c.cop fun hd=>by
  have:=Nat.le_of_dvd q41_ hd;omega
 unfold chkq at h;rw [show Nat.ble 1000 q=true from Nat.ble_eq_true_of_le d,cond_true,g] at h;exact Yn4 c f h
def pr2:Nat→Nat→Nat
 | 0,lo=>lo
 | d+1,lo=>Nat.mul (pr2 d lo) (pr2 d (Nat.add lo (Nat.pow 2 d)))
theorem Zb6 {p:Nat} (c:Pr p):∀ {d lo:Nat},1≤lo→p ∣ pr2 d lo→p<lo+2 ^ d
 | 0,lo,h1,h=>by
  have:=Nat.le_of_dvd h1 h;simp;omega
 | d+1,lo,h1,h=>by
  rw [Nat.pow_succ];have:=Nat.pow_pos (n:=d) (show 0<2 by decide);rcases c.mul h with h2 | h2
  ·have:=Zb6 c h1 h2
   omega
  ·have:=Zb6 c (d:=d) (lo:=lo+2 ^ d) y40_ h2
   omega
def far:List Nat:=[65881,66361,66721,67219,67651,68041,68161,68881,69001,70921,71389,71761,74761,75721,
 76441,76561,76801,77641,78121,78241,79801,80761,81001,84121,84961,85201,87481,87721,
 88321,89041,90001,90841,91081,91381,91921,92401,96769,106669,127507,132001,132049,133447,
 147289,152041,155521,170809,184969]
def great:Nat:=Nat.mul (pr2 16 1) (prodL far)
def gm (m:Nat):Nat:=Nat.gcd (Nat.gcd (Nat.gcd (Nat.sub (Nat.pow 2 (Nat.sub m 1)) 1) (Nat.sub (Nat.pow 3 (Nat.sub m 1)) 1)) (Nat.sub (Nat.pow 5 (Nat.sub m 1)) 1)) (Nat.sub (Nat.pow 7 (Nat.sub m 1)) 1)
def chkm (Q m:Nat):Bool:=cond (Nat.ble 11 m) (cond (Nat.beq (Nat.gcd m 210) 1) (Nat.beq (Nat.mod Q (gm m)) 0) true) true
theorem SQ.gm {q m:Nat} (d:2≤q) (h:SQ q (m - 1)):q ∣ gm m:=by
 have c:∀ {a:Nat},1≤a→a ^ (m - 1) % q=1→q ∣ a ^ (m - 1) - 1:=fun {a} ha h =>
  Yn1 x46_ (Nat.pow_pos ha)
 exact Nat.dvd_gcd (Nat.dvd_gcd (Nat.dvd_gcd (c q41_ h.two) (c q41_ h.three)) (c q41_ h.five)) (c q41_ h.seven)
theorem Vw6:∀ e∈far,e<196608∧e % 2=1:=q42_
theorem Xu7 {Q q m:Nat} (f:2≤q) (e:11≤m) (d:Nat.gcd m 210=1) (hs:SQ q (m - 1)) (h:chkm Q m=true):q ∣ Q:=by
 unfold chkm at h;rw [show Nat.ble 11 m=true from Nat.ble_eq_true_of_le e,cond_true,d,show Nat.beq 1 1=true from rfl,cond_true] at h;have c:Q % gm m=0:=Nat.eq_of_beq_eq_true h;exact Nat.dvd_trans (hs.gm f) (Nat.dvd_of_mod_eq_zero c)
theorem Vk5 {q:Nat} (g:Pr q) (j:65536<q) (h:q ∣ prodL far):q∈far:=by
 obtain ⟨x,d,c,hc⟩:=g.in_prod h;obtain ⟨k,m⟩:=Vw6 x d;have f:c=1:=by
  clear h d;rcases Nat.lt_or_ge c 3 with e | e
  ·have:c=0∨c=1∨c=2:=by omega
   rcases this with rfl | rfl | rfl<;>omega
  ·have:=Nat.mul_le_mul (Nat.le_of_lt j) e
   omega
 subst f;rw [Nat.mul_one] at hc;exact hc▸d
theorem Vw7 {a b q:Nat} (c:Pr q) (ha:¬ q ∣ a) (h:q ∣ Nat.mul a b):q ∣ b:=by
 rcases c.mul h with h3 | h3
 ·exact absurd h3 ha
 ·exact h3
theorem Xu8 {q:Nat} (e:Pr q) (f:65536<q) (d lo:Nat) (c:1≤lo) (h2:lo+2 ^ d≤65537):¬ q ∣ pr2 d lo:=fun h=>by
 have:=Zb6 e c h;omega
theorem Xd7 {q:Nat} (c:Pr q) (d:65536<q) (h:q ∣ great):q∈far:=Vk5 c d (Vw7 c (Xu8 c d 16 1 q41_ q41_) h)
def inv:Nat→Nat→Nat→Nat→Nat→Nat→Nat
 | 0,_,_,_,s,_=>s
 | f+1,L,r0,r1,s0,s1=>cond (Nat.beq r1 0) s0 (inv f L r1 (Nat.mod r0 r1) s1 (Nat.mod (Nat.add s0 (Nat.mul (Nat.sub L (Nat.mod (Nat.div r0 r1) L)) s1)) L))
def lf (M L t:Nat):Nat→Bool
 | 0=>cond (tst (Nat.mul M t)) (Nat.beq (Nat.mul M t) M) true
 | k+1=>cond (tst (Nat.mul M (Nat.add t (Nat.mul (Nat.succ k) L)))) false (lf M L t k)
theorem Xd8 {M L t:Nat}:∀ {c:Nat},lf M L t c=true→∀ k,k≤c→tst (M * (t+k * L))=true→M * (t+k * L)=M
 | 0,h,k,hk,ht=>by
  obtain rfl:k=0:=y40_;unfold lf at h;rw [Nat.zero_mul,Nat.add_zero] at ht ⊢;rw [show tst (Nat.mul M t)=true from ht,cond_true] at h;exact Nat.eq_of_beq_eq_true h
 | c+1,h,k,hk,ht=>by
  unfold lf at h;rcases h1:tst (Nat.mul M (Nat.add t (Nat.mul (Nat.succ c) L))) with _ | _
  ·rw [h1,cond_false] at h
   by_cases h2:k=c+1
   ·subst h2
    rw [show tst (M * (t+(c+1) * L))=false from h1] at ht;cases ht
   ·exact Xd8 h k y40_ ht
  ·rw [h1] at h;cases h
def leaf (M L t c:Nat):Bool:=cond (Nat.blt t L) (cond (Nat.beq (Nat.mod (Nat.mul M t) L) (Nat.mod 1 L)) (lf M L t c) false) false
def dfs:List (Nat × Nat)→Nat→Nat→Bool
 | [],_,_=>true
 | pl :: ps,M,L=>cond (Nat.beq (Nat.gcd M L) 1)
  (cond (Nat.ble (Nat.div 2147483647 (Nat.mul M L)) 64)
   (leaf M L (inv 60 L L (Nat.mod M L) 0 1) (Nat.div 2147483647 (Nat.mul M L)))
   (cond (cond (Nat.ble 2147483648 (Nat.mul M pl.1)) true (cond (tst (Nat.mul M pl.1)) false (dfs ps (Nat.mul M pl.1) (Nat.div (Nat.mul L pl.2) (Nat.gcd L pl.2))))) (dfs ps M L) false))
  true
def okP (pl:Nat × Nat):Bool:=cond (Nat.ble 2 pl.2) (cond (okL pl.1 pl.2) (cond (Nat.beq (pw 2 (Nat.sub pl.1 1) (Nat.mul pl.1 pl.1)) 1) false (Nat.beq (Nat.gcd pl.1 210) 1)) false) false
theorem Yn5 {p l:Nat} (h:okP (p,l)=true):2≤l∧okL p l=true∧2 ^ (p - 1) % (p * p)≠1∧Nat.gcd p 210=1:=by
 unfold okP at h;rcases h1:Nat.ble 2 (p,l).2 with _ | _
 ·rw [h1] at h;cases h
 rw [h1,cond_true] at h;rcases h2:okL (p,l).1 (p,l).2 with _ | _
 ·rw [h2] at h;cases h
 rw [h2,cond_true] at h;rw [N4_,pw_eq] at h;by_cases h3:2 ^ (p - 1) % (p * p)=1
 ·rw [show 2 ^ Nat.sub (p,l).1 1 % Nat.mul (p,l).1 (p,l).1=1 from h3] at h
  simp at h
 ·rw [decide_eq_false (show ¬ 2 ^ Nat.sub (p,l).1 1 % Nat.mul (p,l).1 (p,l).1=1 from h3),cond_false] at h
  exact ⟨Nat.le_of_ble_eq_true h1,rfl,h3,Nat.eq_of_beq_eq_true h⟩
structure Passes (n:Nat):Prop where
 lt:n<2147483648
 two:2≤n
 sq:SQ n (n - 1)
 tst:tst n=true
theorem Zo5 {n:Nat} (d:Passes n):∀ {ps:List (Nat × Nat)} {M L:Nat},dfs ps M L=true→(∀ j∈ps,okP j=true)→1≤M→1≤L→L ∣ n - 1→∀ r,n=M * r→2≤r→(∀ x,Pr x→x ∣ r→∃ l,(x,l)∈ps)→False
 | [],M,L,_,_,_,_,_,r,_,hr,hx=>by
  obtain ⟨x,m,hd⟩:=Yz3 hr;obtain ⟨l,hl⟩:=hx x m hd;cases hl
 | (p,l) :: ps,M,L,h,hok,hM,hL,hLn,r,hr,hr2,hx=>by
  have R:=d.two;unfold dfs at h;have y:Nat.gcd M L=1:=by
   have k:Nat.gcd M L ∣ n:=Nat.dvd_trans (Nat.gcd_dvd_left M L) ⟨r,hr⟩;have h2:Nat.gcd M L ∣ n - 1:=Nat.dvd_trans (Nat.gcd_dvd_right M L) hLn;have h3:=Nat.dvd_sub k h2;rw [show n - (n - 1)=1 by omega] at h3;exact Nat.dvd_one.1 h3
  rw [y,show Nat.beq 1 1=true from rfl,cond_true] at h;rcases k:Nat.ble (Nat.div 2147483647 (Nat.mul M L)) 64 with _ | _
  ·rw [k,cond_false] at h
   simp only at h;rcases h2:cond (Nat.ble 2147483648 (Nat.mul M p)) true (cond (tst (Nat.mul M p)) false (dfs ps (Nat.mul M p) (Nat.div (Nat.mul L l) (Nat.gcd L l)))) with _ | _
   ·rw [h2] at h;cases h
   rw [h2,cond_true] at h;have E:=hok (p,l) k40_;obtain ⟨P,F,N,G⟩:=Yn5 E;by_cases z:p ∣ r∧Pr p
   ·obtain ⟨⟨f,rfl⟩,m⟩:=z
    have s:=m.1;have H:p ∣ n:=⟨M * f,by rw [hr,Nat.mul_left_comm]⟩;have J:1≤f:=by
     rcases Nat.eq_zero_or_pos f with e | e
     ·subst e;simp at hr2
     ·exact e
    have Q:M * p<2147483648:=by
     have h3:=d.lt;have g:M * p≤n:=by
      rw [hr,← Nat.mul_assoc];exact Nat.le_mul_of_pos_right _ J
     omega
    rw [show Nat.ble 2147483648 (Nat.mul M p)=false from by
     rcases q:Nat.ble 2147483648 (Nat.mul M p) with _ | _
     ·rfl
     ·have:=Nat.le_of_ble_eq_true q
      have:2147483648≤M * p:=this;omega,cond_false] at h2
    rcases h3:tst (Nat.mul M p) with _ | _
    ·rw [h3,cond_false] at h2
     have hsq:¬ p ∣ f:=by
      rintro ⟨c,rfl⟩;refine N (wief m (Yd7 G s).1 ⟨M * c,?_⟩ d.two d.sq.two);rw [hr];simp only [Nat.mul_left_comm,Nat.mul_comm]
     have I:2≤f:=by
      rcases Nat.lt_or_ge f 2 with g | g
      ·obtain rfl:f=1:=by omega
       rw [Nat.mul_one] at hr;have:=d.tst;rw [hr,show tst (M * p)=false from h3] at this;cases this
      ·exact g
     have D:l ∣ n - 1:=Zo4 s F (d.sq.low s H);have C:L * l / Nat.gcd L l ∣ n - 1:=Nat.lcm_dvd hLn D;refine Zo5 d h2 (fun j u=>hok j (by simp [u])) (Nat.mul_pos hM y40_) ?_ C f (by rw [hr,← Nat.mul_assoc];rfl) I ?_
     ·exact Nat.lcm_pos hL y40_
     ·intro x o hxr
      obtain ⟨l',hl'⟩:=hx x o (Nat.dvd_trans hxr (Nat.dvd_mul_left f p));exact k17_
    ·rw [h3] at h2;cases h2
   ·refine Zo5 d h (fun j u=>hok j (by simp [u])) hM hL hLn r hr hr2 ?_
    intro x o hxr;obtain ⟨l',hl'⟩:=hx x o hxr;rcases List.mem_cons.1 hl' with e | e
    ·injection e with e1 e2
     subst e1;exact absurd ⟨hxr,o⟩ z
    ·exact ⟨l',e⟩
  ·rw [k,cond_true] at h
   generalize inv 60 L L (Nat.mod M L) 0 1=t at h;unfold leaf at h;rcases h2:Nat.blt t L with _ | _
   ·rw [h2] at h;cases h
   rw [h2,cond_true] at h;rcases h3:Nat.beq (Nat.mod (Nat.mul M t) L) (Nat.mod 1 L) with _ | _
   ·rw [h3] at h;cases h
   rw [h3,cond_true] at h;have K:t<L:=Nat.le_of_ble_eq_true h2;have g:M * t % L=1 % L:=Nat.eq_of_beq_eq_true h3;have q:M * r % L=1 % L:=by
    rw [← hr];exact Yz4 hLn y40_
   have v:r % L=t % L:=by
    refine Zk3 (c:=M) (Nat.coprime_comm.1 y) ?_;rw [Nat.mul_comm r,Nat.mul_comm t,q,g]
   rw [Nat.mod_eq_of_lt K] at v;have w:r=t+r / L * L:=by
    have:=Nat.div_add_mod r L;rw [v,Nat.mul_comm] at this;omega
   have B:r / L≤2147483647 / (M * L):=by
    refine (Nat.le_div_iff_mul_le (Nat.mul_pos hM hL)).2 ?_;have O:=d.lt;have:r / L * (M * L)≤n:=by
     rw [Nat.mul_left_comm,hr];exact Nat.mul_le_mul_left M y40_
    omega
   have A:=Xd8 h (r / L) B (by rw [← w,← hr];exact d.tst);rw [← w] at A;have:M * 2≤M * r:=Nat.mul_le_mul_left M hr2;omega
def top:List (Nat × Nat)→Bool
 | []=>true
 | pl :: ps=>cond (dfs ps pl.1 pl.2) (top ps) false
theorem Yn6 {n:Nat} (d:Passes n) (hc:¬ Pr n):∀ {ps:List (Nat × Nat)},top ps=true→(∀ j∈ps,okP j=true)→(∀ x,Pr x→x ∣ n→∃ l,(x,l)∈ps)→False
 | [],_,_,hx=>by
  obtain ⟨x,g,hd⟩:=Yz3 d.two;obtain ⟨l,hl⟩:=hx x g hd;cases hl
 | (p,l) :: ps,h,hok,hx=>by
  unfold top at h;rcases h1:dfs ps (p,l).1 (p,l).2 with _ | _
  ·rw [h1] at h;cases h
  rw [h1,cond_true] at h;obtain ⟨z,u,y,v⟩:=Yn5 (hok (p,l) k40_);by_cases s:p ∣ n∧Pr p
  ·obtain ⟨⟨r,f⟩,g⟩:=s
   have m:=g.1;have A:=d.two;have w:2≤r:=by
    rcases Nat.lt_or_ge r 2 with q | q
    ·have:r=0∨r=1:=by omega
     rcases this with rfl | rfl
     ·simp at f;omega
     ·rw [Nat.mul_one] at f
      exact absurd (f▸g) hc
    ·exact q
   have hsq:¬ p ∣ r:=by
    rintro ⟨c,rfl⟩;refine y (wief g (Yd7 v m).1 ⟨c,?_⟩ d.two d.sq.two);rw [f,Nat.mul_assoc]
   refine Zo5 d h1 (fun j o=>hok j (by simp [o])) (show 1≤p by omega) (show 1≤l by omega) (Zo4 m u (d.sq.low m ⟨r,f⟩)) r f w ?_;intro x k hxr;obtain ⟨l',hl'⟩:=hx x k (by rw [f];exact Nat.dvd_trans hxr (Nat.dvd_mul_left r p));exact k17_
  ·refine Yn6 d hc h (fun j o=>hok j (by simp [o])) ?_
   intro x k hxr;obtain ⟨l',hl'⟩:=hx x k hxr;rcases List.mem_cons.1 hl' with e | e
   ·injection e with e1 e2
    subst e1;exact absurd ⟨hxr,k⟩ s
   ·exact ⟨l',e⟩
def topAt (ps:List (Nat × Nat)) (i:Nat):Bool:=match ps.drop i with
 | []=>true
 | pl :: r=>dfs r pl.1 pl.2
theorem Vg2:∀ {ps:List (Nat × Nat)},(∀ i,i<ps.length→topAt ps i=true)→top ps=true
 | [],_=>rfl
 | pl :: r,h=>by
  unfold top;rw [show dfs r pl.1 pl.2=true from h 0 k40_,cond_true];exact Vg2 fun i hi=>h (i+1) y48_
def low:List (Nat × Nat):=[
 (997,996),(991,990),(983,982),(977,976),(971,970),(967,966),(953,952),(947,946),(941,940),(937,936),
 (929,928),(919,918),(911,910),(907,906),(887,886),(883,882),(881,880),(877,876),(863,862),(859,858),
 (857,856),(853,852),(839,419),(829,828),(827,826),(823,822),(821,820),(811,810),(809,808),(797,796),
 (787,786),(773,772),(769,768),(761,760),(757,756),(751,750),(743,742),(739,738),(733,732),(727,726),
 (719,359),(709,708),(701,700),(691,690),(683,682),(677,676),(673,672),(661,660),(659,658),(653,652),
 (647,646),(643,642),(641,640),(631,630),(619,618),(617,616),(613,612),(607,606),(601,600),(599,598),
 (593,592),(587,586),(577,576),(571,570),(569,568),(563,562),(557,556),(547,546),(541,540),(523,522),
 (521,520),(509,508),(503,502),(499,498),(491,490),(487,486),(479,239),(467,466),(463,462),(461,460),
 (457,456),(449,448),(443,442),(439,438),(433,432),(431,430),(421,420),(419,418),(409,408),(401,400),
 (397,396),(389,388),(383,382),(379,378),(373,372),(367,366),(359,358),(353,352),(349,348),(347,346),
 (337,336),(331,330),(317,316),(313,312),(311,155),(307,306),(293,292),(283,282),(281,280),(277,276),
 (271,270),(269,268),(263,262),(257,256),(251,250),(241,240),(239,238),(233,232),(229,228),(227,226),
 (223,222),(211,210),(199,198),(197,196),(193,192),(191,190),(181,180),(179,178),(173,172),(167,166),
 (163,162),(157,156),(151,150),(149,148),(139,138),(137,136),(131,130),(127,126),(113,112),(109,108),
 (107,106),(103,102),(101,100),(97,96),(89,88),(83,82),(79,78),(73,72),(71,70),(67,66),
 (61,60),(59,58),(53,52),(47,46),(43,42),(41,40),(37,36),(31,30),(29,28),(23,22),
 (19,18),(17,16),(13,12),(11,10)]
def Zo6 (d:Nat):Bool:=[2,3,5,7,11,13,17,19,23,29,31].any fun k=>cond (Nat.blt k d) (Nat.beq (Nat.mod d k) 0) false
theorem Zo7 {d:Nat} (h:Zo6 d=true):¬ Pr d:=by
 intro j;obtain ⟨k,g,c⟩:=List.any_eq_true.1 h;rcases h2:Nat.blt k d with _ | _
 ·rw [h2] at c;cases c
 rw [h2,cond_true] at c;have h3:k<d:=Nat.le_of_ble_eq_true h2;have f:d % k=0:=Nat.eq_of_beq_eq_true c;have m:k≠1:=by
  rintro rfl;simp at g
 rcases j.2 k (Nat.dvd_of_mod_eq_zero f) with e | e<;>omega
set_option maxRecDepth 100000
theorem Vw8:∀ c∈low,okP c=true:=q42_
def lowIn (d:Nat):Bool:=cond (Nat.ble 11 d) (cond (Nat.blt d 1000) (cond (Zo6 d) true (low.any fun pl=>Nat.beq pl.1 d)) true) true
theorem Vk6:rng lowIn 10 0=true:=q42_
theorem Vk7:low.length=164:=q42_
theorem top0:rng (topAt low) 5 0=true:=q42_
theorem top1:rng (topAt low) 5 32=true:=q42_
theorem top2:rng (topAt low) 5 64=true:=q42_
theorem top3:rng (topAt low) 5 96=true:=q42_
theorem top4:rng (topAt low) 5 128=true:=q42_
theorem top5:rng (topAt low) 5 160=true:=q42_
set_option maxRecDepth 100000
theorem q0a:rng chkq 10 0=true:=q42_
theorem q0b:rng chkq 10 1024=true:=q42_
theorem q0c:rng chkq 10 2048=true:=q42_
theorem q0d:rng chkq 10 3072=true:=q42_
theorem q0:rng chkq 12 0=true:=V5_ (V5_ q0a q0b rfl) (V5_ q0c q0d rfl) rfl
set_option maxRecDepth 100000
theorem q1:rng chkq 12 4096=true:=q42_
theorem q2:rng chkq 12 8192=true:=q42_
theorem q3:rng chkq 12 12288=true:=q42_
theorem q4:rng chkq 12 16384=true:=q42_
theorem q5:rng chkq 12 20480=true:=q42_
theorem q6:rng chkq 12 24576=true:=q42_
theorem q7:rng chkq 12 28672=true:=q42_
theorem q8:rng chkq 12 32768=true:=q42_
theorem q9:rng chkq 12 36864=true:=q42_
theorem q10:rng chkq 12 40960=true:=q42_
theorem q11:rng chkq 12 45056=true:=q42_
theorem q12:rng chkq 12 49152=true:=q42_
theorem q13:rng chkq 12 53248=true:=q42_
theorem q14:rng chkq 12 57344=true:=q42_
theorem q15:rng chkq 12 61440=true:=q42_
set_option maxRecDepth 100000
theorem Vw9:∀ q∈far,chkL q (findL q)=true:=q42_
theorem m0:rng (chkm great) 12 0=true:=q42_
theorem m1:rng (chkm great) 12 4096=true:=q42_
theorem m2:rng (chkm great) 12 8192=true:=q42_
theorem m3:rng (chkm great) 12 12288=true:=q42_
theorem m4:rng (chkm great) 12 16384=true:=q42_
theorem m5:rng (chkm great) 12 20480=true:=q42_
theorem m6:rng (chkm great) 12 24576=true:=q42_
theorem m7:rng (chkm great) 12 28672=true:=q42_
set_option maxRecDepth 100000
theorem Xu9 {m:Nat} (h:m<32768):chkm great m=true :=
 B6_ (V5_ (V5_ (V5_ m0 m1 rfl) (V5_ m2 m3 rfl) rfl) (V5_ (V5_ m4 m5 rfl) (V5_ m6 m7 rfl) rfl) rfl) m (Nat.zero_le _) k44_
theorem Xw0 {q:Nat} (h:q<65536):chkq q=true :=
 B6_ (V5_ (V5_ (V5_ (V5_ q0 q1 rfl) (V5_ q2 q3 rfl) rfl) (V5_ (V5_ q4 q5 rfl) (V5_ q6 q7 rfl) rfl) rfl) (V5_ (V5_ (V5_ q8 q9 rfl) (V5_ q10 q11 rfl) rfl) (V5_ (V5_ q12 q13 rfl) (V5_ q14 q15 rfl) rfl) rfl) rfl) q (Nat.zero_le _) k44_
theorem Vk8:top low=true:=Vg2 fun i c=>by
 rw [Vk7] at c;by_cases d:i<32
 ·exact B6_ top0 i y40_ y40_
 by_cases e:i<64
 ·exact B6_ top1 i y40_ y40_
 by_cases h2:i<96
 ·exact B6_ top2 i y40_ y40_
 by_cases h3:i<128
 ·exact B6_ top3 i y40_ y40_
 by_cases f:i<160
 ·exact B6_ top4 i y40_ y40_
 ·exact B6_ top5 i y40_ y40_
theorem Vk9 {x:Nat} (f:Pr x) (c:11≤x) (h2:x<1000):∃ l,(x,l)∈low:=by
 have h:=B6_ Vk6 x (Nat.zero_le _) y40_;unfold lowIn at h;rw [show Nat.ble 11 x=true from Nat.ble_eq_true_of_le c,cond_true,show Nat.blt x 1000=true from Nat.ble_eq_true_of_le h2,cond_true] at h;rcases h3:Zo6 x with _ | _
 ·rw [h3,cond_false] at h
  obtain ⟨⟨p,l⟩,e,d⟩:=List.any_eq_true.1 h;obtain rfl:p=x:=Nat.eq_of_beq_eq_true d;exact ⟨l,e⟩
 ·exact absurd f (Zo7 h3)
theorem ge_11 {x:Nat} (d:Pr x) (c:Nat.gcd x 210=1):11≤x:=by
 have h2:=d.1;rcases Nat.lt_or_ge x 11 with h | h
 ·have:x=2∨x=3∨x=4∨x=5∨x=6∨x=7∨x=8∨x=9∨x=10:=by omega
  rcases this with rfl | rfl | rfl | rfl | rfl | rfl | rfl | rfl | rfl<;>revert c<;>decide
 ·exact h
theorem psi {n:Nat} (d:Passes n) (k:Nat.gcd n 210=1):Pr n:=by
 apply Classical.byContradiction;intro hc;have C:=d.two;have u:=d.lt;have j:∀ {x:Nat},Pr x→x ∣ n→¬ Alone x:=by
  intro x c hd ha;have h:=ha n u hd (by rintro rfl;exact hc c) y40_ d.sq;rw [d.tst] at h;cases h
 refine Yn6 d hc Vk8 Vw8 fun x c hd=>?_;have g:=Yd8 k hd;have z:=c.1;by_cases r:x<1000
 ·exact Vk9 c (ge_11 c g) r
 ·exfalso
  by_cases h2:x<65536
  ·exact j c hd (Yw6 c y40_ (Xw0 h2))
  ·have D:x≠65536:=by
    rintro rfl;have:=c.2 2 q41_;omega
   obtain ⟨m,f⟩:=hd;have p:1≤m:=by
    rcases Nat.eq_zero_or_pos m with e | e
    ·subst e;omega
    ·exact e
   have B:m≠1:=by
    rintro rfl;rw [Nat.mul_one] at f;exact hc (f▸c)
   have o:Nat.gcd m 210=1:=Yd8 k ⟨x,by rw [f,Nat.mul_comm]⟩;have v:11≤m:=by
    obtain ⟨y,A,q⟩:=Yz3 (n:=m) y40_;have:=ge_11 A (Yd8 o q);have:=Nat.le_of_dvd p q;omega
   have w:m<32768:=by
    rcases Nat.lt_or_ge m 32768 with h | h
    ·exact h
    ·have:=Nat.mul_le_mul (show 65537≤x by omega) h
     omega
   have hs:SQ x (m - 1):=by
    refine SQ.cofactor c g p ?_;rw [← f];exact d.sq
   have s:=Xd7 c y40_ (Xu7 z v o hs (Xu9 w));exact j c ⟨m,f⟩ (Yn4 c g (Vw9 x s))
end Go.Proofs.YtigobiacbficaaaGreatDoor.Wp
