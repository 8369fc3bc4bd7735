/- Numbers modulo a number, plain: primes, Fermat's little theorem, square roots of 1, the exponents that leave 1. Nothing of the program here. -/
import Derived.Lib.Hide
import Derived.Test.YtnaebbjodfnooaaGreatDoorX0A
open Nat (le_refl)
namespace Go.Proofs.YtnaebbjodfnooaaGreatDoor.Wp
def Pr (p:Nat):Prop:=2≤p∧∀ d,d ∣ p→d=1∨d=p
theorem Pr.cop {p a:Nat} (h:Pr p) (ha:¬ p ∣ a):Nat.Coprime p a:=by
 rcases h.2 _ (Nat.gcd_dvd_left p a) with e | e
 ·exact e
 ·exact absurd (by have:=Nat.gcd_dvd_right p a;rwa [e] at this) ha
theorem Pr.mul {p a b:Nat} (h:Pr p) (hd:p ∣ a * b):p ∣ a∨p ∣ b:=by
 by_cases ha:p ∣ a
 ·exact .inl ha
 ·exact .inr ((h.cop ha).dvd_of_dvd_mul_left hd)
theorem Zu1:∀ (b n:Nat),n≤b→2≤n→∃ p,Pr p∧p ∣ n
 | 0,n,hb,hn=>by omega
 | b+1,n,hb,hn=>by
  by_cases h:∃ d,d ∣ n∧d≠1∧d≠n
  ·obtain ⟨d,hd,c,e⟩:=h
   have k:=Nat.le_of_dvd x37_ hd;have j:d≠0:=by rintro rfl;have:=Nat.eq_zero_of_zero_dvd hd;omega
   obtain ⟨p,f,g⟩:=Zu1 b d x37_ x37_;exact ⟨p,f,Nat.dvd_trans g hd⟩
  ·refine ⟨n,⟨hn,fun d hd=>?_⟩,Nat.dvd_refl n⟩
   by_cases c:d=1
   ·exact .inl c
   ·by_cases e:d=n
    ·exact .inr e
    ·exact absurd ⟨d,hd,c,e⟩ h
theorem Zu2 {n:Nat} (c:2≤n):∃ p,Pr p∧p ∣ n:=Zu1 n n (le_refl _) c
theorem Pr.of_dvd {p q:Nat} (c:Pr p) (d:Pr q) (h:p ∣ q):p=q:=by
 rcases d.2 p h with e | e
 ·have:=c.1;omega
 ·exact e
theorem Zx4 {n a b c d:Nat} (e:a % n=b % n) (f:c % n=d % n):a * c % n=b * d % n:=by
 rw [Nat.mul_mod,e,f,← Nat.mul_mod]
theorem N4_ {n a b k:Nat} (h:a % n=b % n):a ^ k % n=b ^ k % n:=by
 rw [Nat.pow_mod,h,← Nat.pow_mod]
theorem G9_ (a n:Nat):a % n % n=a % n:=Nat.mod_mod _ _
theorem Yk1 {n a b:Nat} (h:a % n=b % n) (_:b≤a):n ∣ a - b :=
 Nat.dvd_of_mod_eq_zero (Nat.sub_mod_eq_zero_of_mod_eq h)
theorem Zu3 {n a b:Nat} (h:n ∣ a - b) (d:b≤a):a % n=b % n:=by
 obtain ⟨c,hc⟩:=h;have:a=b+n * c:=x37_;rw [this,Nat.add_mul_mod_self_left]
theorem cm_le {n m a b:Nat} (h:a % n=b % n) (hd:m ∣ n):a % m=b % m:=by
 rw [← Nat.mod_mod_of_dvd a hd,h,Nat.mod_mod_of_dvd _ hd]
theorem Zh2 {n a b c:Nat} (hc:Nat.Coprime n c) (h:a * c % n=b * c % n):a % n=b % n:=by
 have f:∀ {a b:Nat},b≤a→a * c % n=b * c % n→a % n=b % n:=by
  intro a b d h;have e:=Yk1 h (Nat.mul_le_mul_right c d);rw [← Nat.sub_mul] at e;exact Zu3 (hc.dvd_of_dvd_mul_right e) d
 rcases Nat.le_total b a with d | d
 ·exact f d h
 ·exact (f d h.symm).symm
theorem Pr.cancel {p a b c:Nat} (d:Pr p) (hc:¬ p ∣ c) (h:a * c % p=b * c % p):a % p=b % p :=
 Zh2 (d.cop hc) h
def prodL:List Nat→Nat
 | []=>1
 | x :: r=>x * prodL r
theorem Ys2 {l c:List Nat} (h:l.Perm c):prodL l=prodL c:=by
 induction h with
 | nil=>rfl
 | cons x _ ih=>simp [prodL,ih]
 | swap x y l=>simp [prodL];rw [← Nat.mul_assoc,← Nat.mul_assoc,Nat.mul_comm y x]
 | trans _ _ h1 h2=>rw [h1,h2]
theorem Zx5 (a n:Nat):∀ l:List Nat,prodL (l.map fun i=>a * i % n) % n=a ^ l.length * prodL l % n
 | []=>by simp [prodL]
 | x :: r=>by
  simp only [List.map_cons,prodL,List.length_cons];rw [Zx4 (G9_ (a * x) n) (Zx5 a n r),Nat.pow_succ];congr 1;rw [Nat.mul_assoc,Nat.mul_left_comm x,← Nat.mul_assoc,Nat.mul_comm a,Nat.mul_assoc]
theorem Pr.not_prod {p:Nat} (h:Pr p):∀ {l:List Nat},(∀ x∈l,¬ p ∣ x)→¬ p ∣ prodL l
 | [],_,hd=>by
  have:=Nat.le_of_dvd (by simp [prodL]) hd;have:=h.1;simp [prodL] at *
  omega
 | x :: r,hl,hd=>by
  rcases h.mul hd with c | c
  ·exact hl x j37_ c
  ·exact h.not_prod (fun y hy=>hl y q41_) c
theorem Pr.in_prod {p:Nat} (h:Pr p) {l:List Nat} (hd:p ∣ prodL l):∃ x∈l,p ∣ x:=by
 apply Classical.byContradiction;intro c;exact h.not_prod (fun x e d=>c ⟨x,e,d⟩) hd
theorem Ya8 {l c:List Nat} (d:l.Nodup) (h:c.Nodup) (hs:∀ x∈l,x∈c) (hl:l.length=c.length):l.Perm c:=by
 rw [List.perm_ext_iff_of_nodup d h];refine fun x=>⟨hs x,fun f=>?_⟩;apply Classical.byContradiction;intro j;have k:l ⊆ c.erase x:=fun y g=>by
  have m:y≠x:=fun e=>j (e▸g);exact (List.mem_erase_of_ne m).2 (hs y g)
 have:=d.length_le_of_subset k;rw [List.length_erase] at this;simp [f] at this;have:=List.length_pos_of_mem f;omega
theorem fermat {p a:Nat} (d:Pr p) (ha:¬ p ∣ a):a ^ (p - 1) % p=1:=by
 have o:=d.1;have j:(List.range' 1 (p - 1)).Nodup:=List.nodup_range';have c:∀ x,x∈List.range' 1 (p - 1)↔1≤x∧x<p:=by
  intro x;rw [List.mem_range'_1];omega
 have m:∀ x,1≤x→x<p→¬ p ∣ x:=fun x g o hd=>by have:=Nat.le_of_dvd x37_ hd;omega
 have s:((List.range' 1 (p - 1)).map fun i=>a * i % p).Perm (List.range' 1 (p - 1)):=by
  refine Ya8 ?_ j ?_ j37_
  ·rw [List.nodup_iff_pairwise_ne,List.pairwise_map]
   rw [List.nodup_iff_pairwise_ne] at j;refine List.Pairwise.imp_of_mem ?_ j;intro x y f v r e;have u:=(c x).1 f;have w:=(c y).1 v;have:=d.cancel ha (a:=x) (b:=y) (by rw [Nat.mul_comm x,Nat.mul_comm y];exact e);rw [Nat.mod_eq_of_lt u.2,Nat.mod_eq_of_lt w.2] at this;exact r this
  ·intro x f
   obtain ⟨i,hi,rfl⟩:=List.mem_map.1 f;have k:=(c i).1 hi;rw [c];refine ⟨?_,Nat.mod_lt _ x37_⟩;have:a * i % p≠0:=by
    intro e;rcases d.mul (Nat.dvd_of_mod_eq_zero e) with h | h
    ·exact ha h
    ·exact m i k.1 k.2 h
   omega
 have g:=Zx5 a p (List.range' 1 (p - 1));rw [Ys2 s,List.length_range'] at g;have q:¬ p ∣ prodL (List.range' 1 (p - 1)):=d.not_prod fun x f=>by
  have:=(c x).1 f;exact m x this.1 this.2
 have h3:=d.cancel q (a:=1) (b:=a ^ (p - 1)) (by rw [Nat.one_mul];exact g);rw [← h3];exact j21_
theorem Xs2 {p r:Nat} (d:Pr p) (k:r<p) (h:r * r % p=1):r=1∨r=p - 1:=by
 have j:=d.1;have f:1≤r:=by
  rcases Nat.eq_zero_or_pos r with e | e
  ·subst e;simp at h
  ·exact e
 have hd:p ∣ r * r - 1:=Yk1 y42_ (Nat.mul_pos f f);have g:r * r - 1=(r - 1) * (r+1):=by
  obtain ⟨s,rfl⟩:∃ s,r=s+1:=⟨r - 1,x37_⟩;have:(s+1) * (s+1)=s * (s+1+1)+1:=by
   simp only [Nat.mul_add,Nat.add_mul];omega
  rw [this];simp
 rw [g] at hd;rcases d.mul hd with c | c
 ·rcases Nat.eq_zero_or_pos (r - 1) with e | e
  ·left;omega
  ·have:=Nat.le_of_dvd e c
   omega
 ·have:=Nat.le_of_dvd x37_ c
  right;omega
theorem Ya9 {a q e:Nat} (c:2≤q) (h:a ^ e % q=1) (k:Nat):a ^ (e * k) % q=1:=by
 rw [Nat.pow_mul,N4_ (b:=1) y42_,Nat.one_pow];exact j21_
theorem Za3 {a q e f:Nat} (c:2≤q) (h:a ^ e % q=1) (hd:e ∣ f):a ^ f % q=1:=by
 obtain ⟨k,rfl⟩:=hd;exact Ya9 c h k
theorem Vh3 {a q m n:Nat} (g:2≤q) (d:a ^ m % q=1) (f:a ^ n % q=1):a ^ (n % m) % q=1:=by
 have e:n=m * (n / m)+n % m:=(Nat.div_add_mod n m).symm;have c:a ^ n % q=1 * a ^ (n % m) % q:=by
  have:a ^ n=a ^ (m * (n / m)) * a ^ (n % m):=by rw [← Nat.pow_add,← e]
  rw [this];exact Zx4 (by rw [Ya9 g d];exact (Nat.mod_eq_of_lt x37_).symm) rfl
 rw [Nat.one_mul] at c;rw [← c,f]
theorem Za4 {a q:Nat} (e:2≤q) (m n:Nat):a ^ m % q=1→a ^ n % q=1→a ^ (Nat.gcd m n) % q=1:=by
 induction m,n using Nat.gcd.induction with
 | H0 n=>intro _ h;rw [Nat.gcd_zero_left];exact h
 | H1 m n hm ih =>
  intro c d;rw [Nat.gcd_rec];exact ih (Vh3 e c d) c
structure SQ (q e:Nat):Prop where
 two:2 ^ e % q=1
 three:3 ^ e % q=1
 five:5 ^ e % q=1
 seven:7 ^ e % q=1
theorem SQ.gcd {q m n:Nat} (e:2≤q) (c:SQ q m) (d:SQ q n):SQ q (Nat.gcd m n) :=
 ⟨Za4 e m n c.two d.two,Za4 e m n c.three d.three,Za4 e m n c.five d.five,Za4 e m n c.seven d.seven⟩
theorem SQ.dvd {q e f:Nat} (c:2≤q) (h:SQ q e) (hd:e ∣ f):SQ q f :=
 ⟨Za3 c h.two hd,Za3 c h.three hd,Za3 c h.five hd,Za3 c h.seven hd⟩
theorem SQ.low {n q e:Nat} (f:2≤q) (h:SQ n e) (hd:q ∣ n):SQ q e:=by
 have c:∀ {a:Nat},a ^ e % n=1→a ^ e % q=1:=by
  intro a ha;have d:n≠1:=by rintro rfl;rw [Nat.mod_one] at ha;omega
  have:=cm_le (n:=n) (m:=q) (a:=a ^ e) (b:=1) (by rw [ha];rcases Nat.lt_or_ge 1 n with h | h;exact (Nat.mod_eq_of_lt h).symm;(have:n=0:=by omega);subst this;rfl) hd;rw [this];exact j21_
 exact ⟨c h.two,c h.three,c h.five,c h.seven⟩
theorem Yb0 {q:Nat} (h:Nat.gcd q 210=1) (d:2≤q):¬ q ∣ 2∧¬ q ∣ 3∧¬ q ∣ 5∧¬ q ∣ 7:=by
 have c:∀ a,a ∣ 210→¬ q ∣ a:=fun a ha hd=>by
  have:=Nat.dvd_gcd (Nat.dvd_refl q) (Nat.dvd_trans hd ha);rw [h] at this;have:=Nat.le_of_dvd x37_ this;omega
 exact ⟨c 2 q38_,c 3 q38_,c 5 q38_,c 7 q38_⟩
theorem SQ.fermat {q:Nat} (c:Pr q) (h:Nat.gcd q 210=1):SQ q (q - 1):=by
 obtain ⟨d,h3,e,f⟩:=Yb0 h c.1;exact ⟨Wp.fermat c d,Wp.fermat c h3,Wp.fermat c e,Wp.fermat c f⟩
theorem Yb1 {n q k:Nat} (h:Nat.gcd n k=1) (hd:q ∣ n):Nat.gcd q k=1:=by
 have:=Nat.dvd_gcd (Nat.dvd_trans (Nat.gcd_dvd_left q k) hd) (Nat.gcd_dvd_right q k);rw [h] at this;exact Nat.dvd_one.1 this
theorem SQ.cofactor {q m:Nat} (o:Pr q) (p:Nat.gcd q 210=1) (r:1≤m) (h:SQ (q * m) (q * m - 1)):SQ q (m - 1):=by
 have k:=o.1;have c:=h.low k (Nat.dvd_mul_right q m);have f:=SQ.fermat o p;have e:q * m - 1=(q - 1) * m+(m - 1):=by
  have:q * m=(q - 1) * m+m:=by
   rw [← Nat.succ_mul];congr 1;omega
  omega
 have g:∀ {a:Nat},a ^ (q - 1) % q=1→a ^ (q * m - 1) % q=1→a ^ (m - 1) % q=1:=by
  intro a c j;rw [e,Nat.pow_add] at j;rw [Zx4 (b:=1) (d:=a ^ (m - 1)) (by rw [Ya9 k c];exact (Nat.mod_eq_of_lt x37_).symm) rfl,Nat.one_mul] at j;exact j
 exact ⟨g f.two c.two,g f.three c.three,g f.five c.five,g f.seven c.seven⟩
theorem Za5 (x:Nat):∀ n,∃ c,(1+x) ^ n=1+n * x+c * (x * x)
 | 0=>⟨0,j37_⟩
 | n+1=>by
  obtain ⟨c,hc⟩:=Za5 x n;refine ⟨c+n+c * x,?_⟩;rw [Nat.pow_succ,hc];simp only [Nat.add_mul,Nat.mul_add,Nat.one_mul,Nat.mul_one,Nat.mul_assoc];omega
theorem wief {p n:Nat} (d:Pr p) (q:¬ p ∣ 2) (hd:p * p ∣ n) (x:2≤n) (h:2 ^ (n - 1) % n=1):2 ^ (p - 1) % (p * p)=1:=by
 have g:=d.1;have j:2≤p * p:=by
  have:=Nat.mul_le_mul g g;omega
 have f:1 % (p * p)=1:=Nat.mod_eq_of_lt x37_;have o:2 ^ (n - 1) % (p * p)=1:=by
  have:=cm_le (n:=n) (m:=p * p) (a:=2 ^ (n - 1)) (b:=1) y42_ hd;rw [this,f]
 have r:=fermat d q;have h3:2 ^ ((p - 1) * p) % (p * p)=1:=by
  have v:1≤2 ^ (p - 1):=Nat.one_le_two_pow;obtain ⟨k,w⟩:=Yk1 (n:=p) (a:=2 ^ (p - 1)) (b:=1) (by rw [r];exact (Nat.mod_eq_of_lt x37_).symm) v;have e:2 ^ (p - 1)=1+p * k:=x37_;rw [Nat.pow_mul,e];obtain ⟨c,hc⟩:=Za5 (p * k) p;rw [hc];have:1+p * (p * k)+c * (p * k * (p * k))=1+p * p * (k+c * (k * k)):=by
   rw [Nat.add_assoc,Nat.mul_add (p * p)];congr 2
   ·rw [Nat.mul_assoc]
   ·simp only [Nat.mul_left_comm,Nat.mul_comm]
  rw [this,Nat.add_mul_mod_self_left,f]
 have hc:Nat.Coprime (n - 1) p:=by
  have u:p ∣ n:=Nat.dvd_trans (Nat.dvd_mul_right p p) hd;have:¬ p ∣ n - 1:=fun h=>by
   have:=Nat.dvd_sub u h;rw [show n - (n - 1)=1 by omega] at this;have:=Nat.le_of_dvd x37_ this;omega
  exact (d.cop this).symm
 have s:=Za4 j (n - 1) ((p - 1) * p) o h3;refine Za3 j s ?_;refine Nat.Coprime.dvd_of_dvd_mul_right (n:=p) (m:=p - 1) ?_ (Nat.gcd_dvd_right _ _);exact Nat.Coprime.coprime_dvd_left (Nat.gcd_dvd_left _ _) hc
def cnt (p:Nat→Bool) (n:Nat):Nat:=((List.range n).filter p).length
theorem X6_ (p:Nat→Bool) (n:Nat):cnt p (n+1)=cnt p n+if p n then 1 else 0:=by
 unfold cnt;exact j24_
theorem B7_ (p:Nat→Bool):∀ n,cnt p n≤n
 | 0=>by simp [cnt]
 | n+1=>by
  rw [X6_];have:=B7_ p n;split<;>omega
theorem Zj3 {p q:Nat→Bool}:∀ {n:Nat},(∀ v,v<n→p v=true→q v=true)→cnt p n≤cnt q n
 | 0,_=>by simp [cnt]
 | n+1,h=>by
  have e:=Zj3 (p:=p) (q:=q) (n:=n) fun v d=>h v x37_;have c:=h n x37_;rw [X6_,X6_];cases hp:p n
  ·simp;omega
  ·simp [c hp];omega
theorem Yk2 {p q:Nat→Bool}:∀ {n:Nat},(∀ v,v<n→p v=true→q v=true)→(∃ y,y<n∧p y=false∧q y=true)→cnt p n<cnt q n
 | 0,_,⟨y,hy,_⟩=>by omega
 | n+1,h,⟨y,hy,hp,hq⟩=>by
  rw [X6_,X6_];by_cases e:y=n
  ·subst e
   have:=Zj3 (p:=p) (q:=q) (n:=y) fun v d=>h v x37_;simp [hp,hq];omega
  ·have f:=Yk2 (p:=p) (q:=q) (n:=n) (fun v d=>h v x37_) ⟨y,x37_,hp,hq⟩
   have c:=h n x37_;cases hpn:p n
   ·simp;omega
   ·simp [c hpn];omega
theorem Za6 {p q:Nat→Bool} {y:Nat} (d:p y=true) (e:q y=false) (h:∀ v,v≠y→p v=q v):∀ {n:Nat},cnt p n=cnt q n+if y<n then 1 else 0
 | 0=>by simp [cnt]
 | n+1=>by
  have g:=Za6 d e h (n:=n);rw [X6_,X6_,g];by_cases f:y=n
  ·subst f
   simp [d,e]
  ·rw [h n x37_]
   by_cases c:y<n
   ·rw [if_pos c,if_pos (show y<n+1 by omega)];omega
   ·rw [if_neg c,if_neg (show ¬ y<n+1 by omega)];omega
theorem Yb2 {p:Nat→Bool}:∀ {n:Nat},cnt p n=n→∀ v,v<n→p v=true
 | 0,_,v,hv=>by omega
 | n+1,h,v,hv=>by
  rw [X6_] at h;have hl:=B7_ p n;cases hp:p n
  ·rw [hp] at h;simp at h;omega
  ·rw [hp] at h
   simp at h;by_cases c:v=n
   ·subst c;exact hp
   ·exact Yb2 h v x37_
theorem T2_ {p:Nat→Bool}:∀ {n:Nat},(∀ v,v<n→p v=true)→cnt p n=n
 | 0,_=>by simp [cnt]
 | n+1,h=>by
  rw [X6_,h n x37_,T2_ fun v c=>h v x37_];simp
def Cst (es:List (Nat × Nat)) (g:Nat→Nat):Prop:=∀ e∈es,g e.1=g e.2
def Good (es:List (Nat × Nat)) (f:Nat→Nat):Prop:=Cst es f∧(∀ g,Cst es g→∀ v,g (f v)=g v)∧∀ v,f v≤v
theorem Good.uniq {es j:List (Nat × Nat)} {f f':Nat→Nat} (h:Good es f) (e:Good j f') (k:∀ g,Cst es g↔Cst j g):f=f':=by
 funext v
 have a:=h.2.1 f' ((k f').2 e.1) v;have b:=e.2.1 f ((k f).1 h.1) v;have c:=e.2.2 (f v);have d:=h.2.2 (f' v);omega
theorem Good.idem {es:List (Nat × Nat)} {f:Nat→Nat} (h:Good es f) (v:Nat):f (f v)=f v:=h.2.1 f h.1 v
theorem cst_append {a b:List (Nat × Nat)} {g:Nat→Nat}:Cst (a ++ b) g↔Cst a g∧Cst b g:=by
 unfold Cst;constructor
 ·intro h
  exact ⟨fun e c=>h e (List.mem_append.2 (.inl c)),fun e c=>h e (List.mem_append.2 (.inr c))⟩
 ·rintro ⟨h,k⟩ e c
  rcases List.mem_append.1 c with c | c
  ·exact h e c
  ·exact k e c
theorem cst_one {e:Nat × Nat} {g:Nat→Nat}:Cst [e] g↔g e.1=g e.2:=by simp [Cst]
theorem Vh4 (g:Nat→Nat):Cst [] g:=fun _ h=>absurd h j37_
def R1_ (f:Nat→Nat) (a b:Nat):Nat→Nat:=fun v=>if f v=max a b then min a b else f v
def C2_ (f:Nat→Nat) (e:Nat × Nat):Nat→Nat:=R1_ f (f e.1) (f e.2)
def compF (es:List (Nat × Nat)):Nat→Nat:=es.foldl C2_ id
theorem Zh3 (f:Nat→Nat) (a:Nat):R1_ f a a=f:=by
 funext v
 unfold R1_;split<;>omega
theorem Xs3:Good [] id:=⟨Vh4 _,fun _ _ _=>rfl,fun _=>le_refl _⟩
theorem Xa8 {es:List (Nat × Nat)} {f:Nat→Nat} (h:Good es f) (e:Nat × Nat):Good (es ++ [e]) (C2_ f e):=by
 obtain ⟨a,b⟩:=e;have r:=h.idem a;have s:=h.idem b;refine ⟨?_,?_,?_⟩
 ·rw [cst_append]
  refine ⟨fun e p=>?_,cst_one.2 ?_⟩
  ·unfold C2_ R1_
   rw [h.1 e p]
  ·unfold C2_ R1_
   simp only;rcases Nat.le_total (f a) (f b) with hl | hl
   ·rw [Nat.max_eq_right hl,Nat.min_eq_left hl]
    split<;>simp_all
   ·rw [Nat.max_eq_left hl,Nat.min_eq_right hl]
    split<;>simp_all
 ·intro g c v
  rw [cst_append,cst_one] at c;have k:=h.2.1 g c.1;have m:=k a;have o:=k b;have d:=k v;have j:g a=g b:=c.2;show g (if f v=max (f a) (f b) then min (f a) (f b) else f v)=g v;split
  ·rename_i hm
   rcases Nat.le_total (f a) (f b) with hl | hl
   ·rw [Nat.max_eq_right hl] at hm
    rw [Nat.min_eq_left hl,m,j,← o,← hm,d]
   ·rw [Nat.max_eq_left hl] at hm
    rw [Nat.min_eq_right hl,o,← j,← m,← hm,d]
  ·exact d
 ·intro v
  have q:=h.2.2 v;show (if f v=max (f a) (f b) then min (f a) (f b) else f v)≤v;split<;>omega
theorem Zu4:∀ (es c:List (Nat × Nat)) (f:Nat→Nat),Good c f→Good (c ++ es) (es.foldl C2_ f)
 | [],c,f,h=>by simpa using h
 | e :: es,c,f,h=>by
  have:=Zu4 es (c ++ [e]) _ (Xa8 h e);simpa using this
theorem B2_ (es:List (Nat × Nat)):Good es (compF es):=Zu4 es [] id Xs3
theorem Za7 (es:List (Nat × Nat)) (e:Nat × Nat):compF (es ++ [e])=C2_ (compF es) e:=by
 unfold compF;rw [List.foldl_append];rfl
theorem Zu5 {a b:List (Nat × Nat)} (h:∀ g,Cst a g↔Cst b g):compF a=compF b:=(B2_ a).uniq (B2_ b) h
theorem Xa9 (es:List (Nat × Nat)) (v:Nat):compF es v≤v:=(B2_ es).2.2 v
theorem Zu6 (es:List (Nat × Nat)) (v:Nat):compF es (compF es v)=compF es v:=(B2_ es).idem v
theorem Xb0 {es:List (Nat × Nat)} {e:Nat × Nat} (h:e∈es):compF es e.1=compF es e.2:=(B2_ es).1 e h
theorem Zu7 (a b:List (Nat × Nat)) (v:Nat):compF (a ++ b) (compF a v)=compF (a ++ b) v :=
 (B2_ a).2.1 _ ((cst_append.1 (B2_ (a ++ b)).1).1) v
def rootB (f:Nat→Nat) (r:Nat):Bool:=decide (f r=r)
def H0_ (n:Nat) (es:List (Nat × Nat)):Nat:=cnt (rootB (compF es)) n
theorem Za8 (n:Nat) (es:List (Nat × Nat)):H0_ n es≤n:=B7_ _ _
theorem Yb3 {n:Nat} {a b:List (Nat × Nat)} (h:∀ g,Cst a g↔Cst b g):H0_ n a=H0_ n b:=by unfold H0_;rw [Zu5 h]
theorem Xb1 {n:Nat} {es:List (Nat × Nat)} {e:Nat × Nat} (h:compF es e.1=compF es e.2):H0_ n (es ++ [e])=H0_ n es:=by
 unfold H0_;rw [Za7,C2_,h,Zh3]
theorem Ys3 {n:Nat} {es:List (Nat × Nat)} {e:Nat × Nat} (h:compF es e.1≠compF es e.2) (m:e.1<n) (o:e.2<n):H0_ n es=H0_ n (es ++ [e])+1:=by
 obtain ⟨a,b⟩:=e;unfold H0_;rw [Za7];have g:=B2_ es;generalize compF es=f at *
 have j:=g.idem a;have k:=g.idem b;have s:=g.2.2 a;have u:=g.2.2 b;simp only at h m o;have hi:f (max (f a) (f b))=max (f a) (f b):=by
  rcases Nat.le_total (f a) (f b) with hl | hl
  ·rw [Nat.max_eq_right hl];exact k
  ·rw [Nat.max_eq_left hl];exact j
 have lo:f (min (f a) (f b))=min (f a) (f b):=by
  rcases Nat.le_total (f a) (f b) with hl | hl
  ·rw [Nat.min_eq_left hl];exact j
  ·rw [Nat.min_eq_right hl];exact k
 have:=Za6 (n:=n) (p:=rootB f) (q:=rootB (C2_ f (a,b))) (y:=max (f a) (f b)) (by simpa [rootB] using hi) ?_ ?_
 ·rw [this,if_pos x37_]
 ·simp only [rootB,C2_,R1_,decide_eq_false_iff_not]
  rw [if_pos hi];omega
 ·intro v r
  simp only [rootB,C2_,R1_];rw [decide_eq_decide];by_cases c:f v=max (f a) (f b)
  ·rw [if_pos c]
   constructor
   ·intro d;omega
   ·intro d
    rw [← d,lo] at c;omega
  ·rw [if_neg c]
theorem Ys4 (n:Nat):H0_ n []=n:=T2_ fun v _=>by simp [rootB,compF]
def Lies (n:Nat) (es:List (Nat × Nat)):Prop:=∀ e∈es,e.1<n∧e.2<n
def stepF (f:Nat→Nat) (e:Nat × Nat):Nat→Nat:=fun x=>if x=e.2 then min (f e.1) (f e.2) else if x=e.1 then min (f e.1) (f e.2) else f x
def Vt7 (es:List (Nat × Nat)) (f:Nat→Nat):Nat→Nat:=es.foldl stepF f
def Q0_ (es:List (Nat × Nat)):Nat→Nat→Nat
 | 0=>id
 | k+1=>Vt7 es (Q0_ es k)
def Inv (es:List (Nat × Nat)) (h:Nat→Nat):Prop:=(∀ g,Cst es g→∀ v,g (h v)=g v)∧∀ v,h v≤v
theorem Xs4 {es:List (Nat × Nat)} {h:Nat→Nat} (hi:Inv es h) {e:Nat × Nat} (m:e∈es):Inv es (stepF h e):=by
 refine ⟨fun g c v=>?_,fun v=>?_⟩
 ·have f:=hi.1 g c e.1
  have j:=hi.1 g c e.2;have d:=c e m;have k:g (min (h e.1) (h e.2))=g e.2:=by
   rcases Nat.le_total (h e.1) (h e.2) with hl | hl
   ·rw [Nat.min_eq_left hl,f,d]
   ·rw [Nat.min_eq_right hl,j]
  unfold stepF;split
  ·rename_i hv;rw [k,hv]
  ·split
   ·rename_i hv;rw [k,hv,d]
   ·exact hi.1 g c v
 ·have f:=hi.2 e.1
  have j:=hi.2 e.2;have d:=hi.2 v;unfold stepF;split
  ·omega
  ·split<;>omega
theorem Vh5 (h:Nat→Nat) (e:Nat × Nat) (x:Nat):stepF h e x≤h x:=by
 unfold stepF;split
 ·rename_i hx;rw [hx];omega
 ·split
  ·rename_i hx;rw [hx];omega
  ·exact le_refl _
theorem Yk3 {es:List (Nat × Nat)} {h:Nat→Nat} (hi:Inv es h) (v:Nat):compF es v≤h v:=by
 have:=hi.1 (compF es) (B2_ es).1 v;have:=Xa9 es (h v);omega
theorem Zm8 {es:List (Nat × Nat)}:∀ (t:List (Nat × Nat)) (h:Nat→Nat),Inv es h→(∀ e∈t,e∈es) →
  Inv es (t.foldl stepF h)∧(∀ v,h v=compF es v→t.foldl stepF h v=compF es v) ∧
   ∀ e∈t,h e.1=compF es e.1∨h e.2=compF es e.2→t.foldl stepF h e.1=compF es e.1∧t.foldl stepF h e.2=compF es e.2
 | [],h,hi,_=>⟨hi,fun _ g=>g,fun e d=>absurd d j37_⟩
 | e :: t,h,hi,hs=>by
  have d:=hs e j37_;have j:=Xs4 hi d;obtain ⟨a,b,c⟩:=Zm8 t (stepF h e) j (fun x hx=>hs x x41_);have keep:∀ v,h v=compF es v→stepF h e v=compF es v:=fun v g=>by
   have:=Vh5 h e v;have:=Yk3 j v;omega
  refine ⟨a,fun v g=>b v (keep v g),fun x hx f=>?_⟩;rcases List.mem_cons.1 hx with rfl | hx
  ·have p:=Xb0 d
   have m:=Yk3 hi x.1;have o:=Yk3 hi x.2;have k:min (h x.1) (h x.2)=compF es x.2:=by rcases f with f | f<;>omega
   refine ⟨b x.1 ?_,b x.2 ?_⟩
   ·unfold stepF
    rw [if_pos rfl,k];split<;>omega
   ·unfold stepF
    rw [if_pos rfl,k]
  ·exact c x hx (f.imp (keep _) (keep _))
theorem Zz1 (es:List (Nat × Nat)):∀ k,Inv es (Q0_ es k)
 | 0=>⟨fun _ _ _=>rfl,fun _=>le_refl _⟩
 | k+1=>(Zm8 es _ (Zz1 es k) fun _ h=>h).1
theorem Zh4 {n:Nat} {es:List (Nat × Nat)} (hl:Lies n es):∀ k,k≤n→k≤cnt (fun v=>decide (Q0_ es k v=compF es v)) n
 | 0,_=>Nat.zero_le _
 | k+1,hk=>by
  have A:=Zh4 hl k x37_;obtain ⟨_,b,c⟩:=Zm8 es _ (Zz1 es k) fun _ h=>h;have hi:=Zz1 es k;show k+1≤cnt (fun v=>decide (es.foldl stepF (Q0_ es k) v=compF es v)) n;generalize Q0_ es k=h at *
  by_cases m:cnt (fun v=>decide (h v=compF es v)) n=n
  ·have ha:=Yb2 m
   rw [T2_ fun v j=>by simpa using b v (by simpa using ha v j)];exact hk
  ·have w:∃ e∈es,(h e.1=compF es e.1∧h e.2≠compF es e.2)∨(h e.2=compF es e.2∧h e.1≠compF es e.1):=by
    refine Classical.byContradiction fun s=>m (T2_ fun v j=>?_);have hc:Cst es (fun v=>if h v=compF es v then 0 else 1):=by
     intro e g;by_cases d:h e.1=compF es e.1
     ·by_cases f:h e.2=compF es e.2
      ·simp [d,f]
      ·exact absurd ⟨e,g,.inl ⟨d,f⟩⟩ s
     ·by_cases f:h e.2=compF es e.2
      ·exact absurd ⟨e,g,.inr ⟨f,d⟩⟩ s
      ·simp [d,f]
    have o:=(B2_ es).2.1 _ hc v;have x:h (compF es v)=compF es (compF es v):=by
     have d:=Yk3 hi (compF es v);have f:=hi.2 (compF es v);rw [Zu6] at d ⊢;omega
    rw [if_pos x] at o;by_cases u:h v=compF es v
    ·simpa using u
    ·rw [if_neg u] at o;omega
   obtain ⟨e,g,y⟩:=w;have z:=Yk2 (p:=fun v=>decide (h v=compF es v)) (q:=fun v=>decide (es.foldl stepF h v=compF es v)) (n:=n)
    (fun v _ j=>by simpa using b v (by simpa using j)) (by
     have r:=hl e g;rcases y with ⟨d,f⟩ | ⟨d,f⟩
     ·exact ⟨e.2,r.2,by simpa using f,by simpa using (c e g (.inl d)).2⟩
     ·exact ⟨e.1,r.1,by simpa using f,by simpa using (c e g (.inr d)).1⟩)
   omega
theorem Yb4 {n:Nat} {es:List (Nat × Nat)} (hl:Lies n es) (v:Nat) (d:v<n):Q0_ es n v=compF es v:=by
 have h:=Zh4 hl n (le_refl _);have c:=B7_ (fun v=>decide (Q0_ es n v=compF es v)) n;simpa using Yb2 (Nat.le_antisymm c h) v d
def X4_ (n:Nat) (f:Nat→Nat) (r:Nat):List Nat:=(List.range n).filter fun v=>decide (f v=r)
def D4_ (n:Nat) (f:Nat→Nat):List Nat:=(List.range n).filter (rootB f)
def C3_ (n:Nat) (f:Nat→Nat):List (List Nat):=(D4_ n f).map (X4_ n f)
theorem A2_ (n:Nat) (f:Nat→Nat):(C3_ n f).length=cnt (rootB f) n:=by simp [C3_,D4_,cnt]
theorem R7_ (n:Nat) (f:Nat→Nat) (r:Nat):X4_ (n+1) f r=X4_ n f r ++ if f n=r then [n] else []:=by
 unfold X4_;rw [List.range_succ,List.filter_append];by_cases h:f n=r<;>simp [h]
theorem L2_ (n:Nat) (f:Nat→Nat):D4_ (n+1) f=D4_ n f ++ if f n=n then [n] else []:=by
 unfold D4_;rw [List.range_succ,List.filter_append];by_cases h:f n=n<;>simp [rootB,h]
theorem mem_rootsL {n:Nat} {f:Nat→Nat} {r:Nat}:r∈D4_ n f↔r<n∧f r=r:=by simp [D4_,rootB]
theorem mem_partAt {n:Nat} {f:Nat→Nat} {r v:Nat}:v∈X4_ n f r↔v<n∧f v=r:=by simp [X4_]
theorem T3_ (n:Nat) (f:Nat→Nat) (r:Nat):(X4_ n f r).length≤n:=by
 have:=List.length_filter_le (fun v=>decide (f v=r)) (List.range n);simpa [X4_] using this
theorem T4_ {f:Nat→Nat} {r:Nat} (c:f r=r):∀ {n:Nat},r<n→(D4_ n f)[cnt (rootB f) r]?=some r
 | 0,h=>by omega
 | n+1,h=>by
  rw [L2_];have hl:(D4_ n f).length=cnt (rootB f) n:=rfl;by_cases g:r=n
  ·subst g
   rw [if_pos c,List.getElem?_append_right x37_,hl];simp
  ·have d:=T4_ c (n:=n) x37_
   have e:=(List.getElem?_eq_some_iff.1 d).1;rw [List.getElem?_append_left e];exact d
theorem Yb5 {f:Nat→Nat} {r n:Nat} (c:f r=r) (h:r<n):cnt (rootB f) r<cnt (rootB f) n:=by
 have:=(List.getElem?_eq_some_iff.1 (T4_ c h)).1;exact this
def X9_ (k:Nat) (f:Nat→Nat):List (List Nat):=if f k=k then C3_ k f ++ [[]] else C3_ k f
theorem Ys5 {f:Nat→Nat} {k:Nat} (c:∀ v,f v≤v):X4_ k f k=[]:=by
 rw [List.eq_nil_iff_forall_not_mem];intro v d;have:=mem_partAt.1 d;have:=c v;omega
theorem Za9 (k:Nat) (f:Nat→Nat):(X9_ k f).length=cnt (rootB f) (k+1):=by
 unfold X9_;rw [X6_];by_cases h:f k=k
 ·simp [h,rootB,A2_]
 ·simp [h,rootB,A2_]
theorem Yb6 {f:Nat→Nat} {k:Nat} (c:∀ v,f v≤v) (hid:∀ v,f (f v)=f v):cnt (rootB f) (f k)<(X9_ k f).length:=by
 rw [Za9];exact Yb5 (hid k) (by have:=c k;omega)
theorem Vh6 {f:Nat→Nat} {k:Nat} (c:∀ v,f v≤v) (hid:∀ v,f (f v)=f v):(X9_ k f)[cnt (rootB f) (f k)]?=some (X4_ k f (f k)):=by
 unfold X9_;by_cases h:f k=k
 ·rw [if_pos h,h,List.getElem?_append_right (by rw [A2_];exact le_refl _),A2_,Ys5 c]
  simp
 ·have d:f k<k:=by have:=c k;omega
  rw [if_neg h];unfold C3_;rw [List.getElem?_map,T4_ (hid k) d];rfl
theorem Yb7 (n:Nat) (f:Nat→Nat):(D4_ n f).Pairwise (·<·):=List.Pairwise.sublist List.filter_sublist List.pairwise_lt_range
theorem Xs5 {l:List Nat} (h:l.Pairwise (·<·)) {i j:Nat} {r:Nat} (hi:l[i]?=some r) (e:l[j]?=some r):i=j:=by
 obtain ⟨a,ha⟩:=List.getElem?_eq_some_iff.1 hi;obtain ⟨b,hb⟩:=List.getElem?_eq_some_iff.1 e;rcases Nat.lt_trichotomy i j with c | d | c
 ·have:=List.pairwise_iff_getElem.1 h i j a b c
  omega
 ·exact d
 ·have:=List.pairwise_iff_getElem.1 h j i b a c
  omega
theorem Ys6 {f:Nat→Nat} {k:Nat} (g:∀ v,f v≤v) (hid:∀ v,f (f v)=f v) :
  C3_ (k+1) f=(X9_ k f).set (cnt (rootB f) (f k)) (X4_ k f (f k) ++ [k]):=by
 refine List.ext_getElem? fun i=>?_;have s:(D4_ (k+1) f).length=cnt (rootB f) (k+1):=rfl;by_cases hi:i=cnt (rootB f) (f k)
 ·subst hi
  rw [List.getElem?_set_self (Yb6 g hid)];unfold C3_;rw [List.getElem?_map,T4_ (hid k) (by have:=g k;omega)];simp [R7_]
 ·rw [List.getElem?_set_ne (fun h=>hi h.symm)]
  unfold C3_ X9_;rw [List.getElem?_map,L2_];have m:∀ r,(D4_ k f)[i]?=some r→X4_ (k+1) f r=X4_ k f r:=by
   intro r d;have j:=mem_rootsL.1 (List.mem_of_getElem? d);rw [R7_];by_cases e:f k=r
   ·exfalso
    have p:=T4_ (f:=f) (r:=r) j.2 (n:=k) j.1;exact hi (by rw [e];exact Xs5 (Yb7 k f) d p)
   ·simp [e]
  by_cases h:f k=k
  ·rw [if_pos h,if_pos h]
   have q:i≠(D4_ k f).length:=by rw [h] at hi;exact hi
   have o:(C3_ k f).length=(D4_ k f).length:=by simp [C3_]
   by_cases c:i<(D4_ k f).length
   ·rw [List.getElem?_append_left c,List.getElem?_append_left (by rw [o];exact c)]
    unfold C3_;rw [List.getElem?_map,List.getElem?_eq_getElem c];simp [m _ (List.getElem?_eq_getElem c)]
   ·rw [List.getElem?_eq_none k37_,List.getElem?_eq_none (by simp [o];omega)]
    rfl
  ·rw [if_neg h,if_neg h,List.append_nil]
   unfold C3_;rw [List.getElem?_map];rcases d:(D4_ k f)[i]? with _ | r
   ·rfl
   ·simp [m r d]
end Go.Proofs.YtnaebbjodfnooaaGreatDoor.Wp
namespace Go.Proofs.YtnaebbjodfnooaaGreatDoor.Wp.L
abbrev Vec:=Nat→Int
def Fld (p:Int):Prop:=∀ c:Int,¬ p ∣ c→∃ d:Int,p ∣ c * d - 1
def InSp (p:Int) (R:Nat):List Vec→Vec→Prop
 | [],v=>∀ r,r<R→p ∣ v r
 | u :: us,v=>∃ c:Int,InSp p R us fun r=>v r - c * u r
variable {p:Int} {R:Nat}
theorem T5_:∀ {us:List Vec} {v w:Vec},InSp p R us v→(∀ r,r<R→p ∣ v r - w r)→InSp p R us w
 | [],v,w,h,e=>fun r d=>by
  have f:=Int.dvd_sub (h r d) (e r d)
  rwa [show v r - (v r - w r)=w r by omega] at f
 | u :: us,v,w,⟨c,h⟩,e=>⟨c,T5_ h fun r d=>by
  have:=e r d
  rwa [show v r - c * u r - (w r - c * u r)=v r - w r by omega]⟩
theorem Q9_ {us:List Vec} {v w:Vec} (h:InSp p R us v) (e:∀ r,r<R→v r=w r):InSp p R us w :=
 T5_ h fun r c=>by rw [e r c];simp
theorem Zz2:∀ {us:List Vec},InSp p R us fun _=>0
 | []=>fun _ _=>Int.dvd_zero p
 | _ :: _=>⟨0,Q9_ Zz2 fun r _=>by simp⟩
theorem Zb0:∀ {us:List Vec} {v w:Vec},InSp p R us v→InSp p R us w→InSp p R us fun r=>v r+w r
 | [],_,_,h,k=>fun r e=>Int.dvd_add (h r e) (k r e)
 | u :: us,v,w,⟨c,h⟩,⟨d,k⟩=>⟨c+d,Q9_ (Zb0 h k) fun r _=>by dsimp only;rw [Int.add_mul];omega⟩
theorem T6_:∀ {us:List Vec} {v:Vec} (k:Int),InSp p R us v→InSp p R us fun r=>k * v r
 | [],_,k,h=>fun r d=>Int.dvd_trans (h r d) (Int.dvd_mul_left k _)
 | u :: us,v,k,⟨c,h⟩=>⟨k * c,Q9_ (T6_ k h) fun r _=>by rw [Int.mul_sub,Int.mul_assoc]⟩
theorem Yk4 {us:List Vec} {v w:Vec} (h:InSp p R us v) (k:InSp p R us w):InSp p R us fun r=>v r - w r :=
 Q9_ (Zb0 h (T6_ (-1) k)) fun r _=>by omega
theorem sp_up {us:List Vec} {u v:Vec} (h:InSp p R us v):InSp p R (u :: us) v:=⟨0,Q9_ h fun r _=>by simp⟩
theorem Yb8 (us:List Vec) (u:Vec):InSp p R (u :: us) u:=⟨1,Q9_ Zz2 fun r _=>by omega⟩
theorem Q5_:∀ {us:List Vec} {u:Vec},u∈us→InSp p R us u
 | _ :: us,u,h=>by
  rcases List.mem_cons.1 h with rfl | h
  ·exact Yb8 us _
  ·exact sp_up (Q5_ h)
theorem C4_:∀ {us ws:List Vec} {v:Vec},(∀ u∈us,InSp p R ws u)→InSp p R us v→InSp p R ws v
 | [],ws,v,_,h=>T5_ Zz2 fun r f=>by
  have:=h r f;rw [show (0:Int) - v r=-(v r) by omega];exact (Int.dvd_neg).2 this
 | u :: us,ws,v,hs,⟨c,h⟩=>by
  have d:=C4_ (fun x hx=>hs x x41_) h;have e:=T6_ c (hs u j37_);exact Q9_ (Zb0 d e) fun r _=>by omega
theorem sp_mono {us ws:List Vec} {v:Vec} (hs:∀ u∈us,u∈ws) (h:InSp p R us v):InSp p R ws v:=C4_ (fun u c=>Q5_ (hs u c)) h
theorem Vh7 (f:Fld p) {us:List Vec} {u v:Vec} (h:InSp p R (u :: us) v) (g:¬ InSp p R us v):InSp p R (v :: us) u:=by
 obtain ⟨c,h⟩:=h;by_cases hc:p ∣ c
 ·exact absurd (T5_ h fun r j=>by
   rw [show v r - c * u r - v r=-(c * u r) by omega];exact (Int.dvd_neg).2 (Int.dvd_trans hc (Int.dvd_mul_right c _))) g
 ·obtain ⟨d,hd⟩:=f c hc
  have e:=T6_ (-d) h;refine ⟨d,T5_ e fun r _=>?_⟩;rw [show -d * (v r - c * u r) - (u r - d * v r)=(c * d - 1) * u r by
   rw [Int.mul_sub,Int.sub_mul,Int.neg_mul,Int.neg_mul,← Int.mul_assoc d c,Int.mul_comm d c];omega]
  exact Int.dvd_trans hd (Int.dvd_mul_right _ _)
def Ind (p:Int) (R:Nat):List Vec→Prop
 | []=>True
 | u :: us=>¬ InSp p R us u∧Ind p R us
theorem Yk5 (q:Fld p) {w:Vec} {ws:List Vec}:∀ {us:List Vec},Ind p R us→(∀ u∈us,InSp p R (w :: ws) u) →
  (∀ u∈us,InSp p R ws u)∨∃ e u,Ind p R e∧(∀ x∈e,InSp p R ws x)∧us.length=e.length+1∧(∀ v,InSp p R (u :: e) v→InSp p R us v)∧(∀ x∈us,InSp p R (u :: e) x)∧InSp p R (w :: ws) u∧¬ InSp p R ws u
 | [],_,_=>.inl fun u G=>by cases G
 | h :: t,⟨hi,ht⟩,hs=>by
  have s:=hs h j37_;rcases Yk5 q ht (fun x hx=>hs x x41_) with m | ⟨d,u,E,hs',hl,f,C,B,A⟩
  ·by_cases o:InSp p R ws h
   ·exact .inl fun x hx=>by
     rcases List.mem_cons.1 hx with rfl | hx
     ·exact o
     ·exact m x hx
   ·exact .inr ⟨t,h,ht,m,rfl,fun v j=>j,fun x hx=>Q5_ hx,s,o⟩
  ·right
   have H:InSp p R (u :: ws) w:=Vh7 q B A;have D:InSp p R (u :: ws) h:=C4_ (fun x hx=>by
    rcases List.mem_cons.1 hx with rfl | hx
    ·exact H
    ·exact sp_up (Q5_ hx)) s
   obtain ⟨c,hc⟩:=D;have g:InSp p R t u:=f u (Yb8 d u);refine ⟨(fun r=>h r - c * u r) :: d,u,⟨fun hb=>hi ?_,E⟩,?_,by simp [hl],?_,?_,B,A⟩
   ·have h3:InSp p R t fun r=>h r - c * u r:=f _ (sp_up hb)
    exact Q9_ (Zb0 h3 (T6_ c g)) fun r _=>by omega
   ·intro x hx
    rcases List.mem_cons.1 hx with rfl | hx
    ·exact hc
    ·exact hs' x hx
   ·intro v j
    refine C4_ (fun x hx=>?_) j;rcases List.mem_cons.1 hx with rfl | hx
    ·exact sp_up g
    ·rcases List.mem_cons.1 hx with rfl | hx
     ·exact Yk4 (Yb8 t h) (T6_ c (sp_up g))
     ·exact sp_up (f x (Q5_ x41_))
   ·intro x hx
    have F:∀ y,InSp p R (u :: d) y→InSp p R (u :: (fun r=>h r - c * u r) :: d) y:=fun y I=>sp_mono (fun z k=>by
     rcases List.mem_cons.1 k with rfl | k
     ·simp
     ·simp [k]) I
    rcases List.mem_cons.1 hx with rfl | hx
    ·exact Q9_ (Zb0 (Q5_ (us:=u :: (fun r=>x r - c * u r) :: d) (u:=fun r=>x r - c * u r) j37_) (T6_ c (Q5_ (u:=u) j37_))) fun r _=>by omega
    ·exact F x (C x hx)
theorem Yk6 (c:Fld p):∀ {ws us:List Vec},Ind p R us→(∀ u∈us,InSp p R ws u)→us.length≤ws.length
 | [],us,hi,hs=>by
  cases us with
  | nil=>exact le_refl _
  | cons u us =>
   refine absurd ?_ hi.1;exact C4_ (fun x e=>by cases e) (hs u j37_)
 | w :: ws,us,hi,hs=>by
  rcases Yk5 c hi hs with h | ⟨f,u,d,hs',hl,_⟩
  ·have:=Yk6 c hi h
   simp;omega
  ·have:=Yk6 c d hs'
   simp;omega
open Classical in
noncomputable def bs (p:Int) (R:Nat):List Vec→List Vec
 | []=>[]
 | u :: us=>if InSp p R us u then bs p R us else u :: bs p R us
theorem Yk7:∀ {us:List Vec},∀ x∈bs p R us,x∈us
 | u :: us,x,h=>by
  unfold bs at h;split at h
  ·simp [Yk7 x h]
  ·rcases List.mem_cons.1 h with rfl | h
   ·simp
   ·simp [Yk7 x h]
theorem Zb1:∀ {us:List Vec} {v:Vec},InSp p R us v→InSp p R (bs p R us) v
 | [],_,h=>h
 | u :: us,v,h=>by
  unfold bs;split
  ·rename_i hu
   refine C4_ (fun x d=>?_) h;rcases List.mem_cons.1 d with rfl | d
   ·exact Zb1 hu
   ·exact Zb1 (Q5_ d)
  ·obtain ⟨c,h⟩:=h
   exact ⟨c,Zb1 h⟩
theorem Xb2:∀ {us:List Vec},Ind p R (bs p R us)
 | []=>trivial
 | u :: us=>by
  unfold bs;split
  ·exact Xb2
  ·rename_i hu
   exact ⟨fun h=>hu (sp_mono Yk7 h),Xb2⟩
noncomputable def rk (p:Int) (R:Nat) (us:List Vec):Nat:=(bs p R us).length
theorem rk_le (c:Fld p) {us ws:List Vec} (h:∀ u∈us,InSp p R ws u):rk p R us≤rk p R ws :=
 Yk6 c Xb2 fun u d=>Zb1 (h u (Yk7 u d))
theorem rk_eq (c:Fld p) {us ws:List Vec} (h:∀ u∈us,InSp p R ws u) (k:∀ w∈ws,InSp p R us w):rk p R us=rk p R ws :=
 Nat.le_antisymm (rk_le c h) (rk_le c k)
theorem rk_nil:rk p R []=0:=rfl
theorem rk_cons_in {us:List Vec} {u:Vec} (h:InSp p R us u):rk p R (u :: us)=rk p R us:=by
 unfold rk;rw [show bs p R (u :: us)=bs p R us from if_pos h]
theorem rk_cons_out {us:List Vec} {u:Vec} (h:¬ InSp p R us u):rk p R (u :: us)=rk p R us+1:=by
 unfold rk;rw [show bs p R (u :: us)=u :: bs p R us from if_neg h];rfl
theorem Vd5:∀ {us:List Vec},rk p R us≤us.length
 | []=>le_refl _
 | u :: us=>by
  have:=Vd5 (us:=us);by_cases h:InSp p R us u
  ·rw [rk_cons_in h];simp;omega
  ·rw [rk_cons_out h];simp;omega
theorem rk_perm (c:Fld p) {us ws:List Vec} (h:∀ x,x∈us↔x∈ws):rk p R us=rk p R ws :=
 rk_eq c (fun u d=>Q5_ ((h u).1 d)) (fun w e=>Q5_ ((h w).2 e))
theorem Ys7 (c:Fld p) {us:List Vec} {u:Vec} (h:InSp p R us u):rk p R (us ++ [u])=rk p R us:=by
 rw [← rk_cons_in h];exact rk_perm c fun x=>by simp [or_comm]
theorem Yb9 (c:Fld p) {us:List Vec} {u:Vec} (h:¬ InSp p R us u):rk p R (us ++ [u])=rk p R us+1:=by
 rw [← rk_cons_out h];exact rk_perm c fun x=>by simp [or_comm]
def lin:List Int→List Vec→Vec
 | c :: cs,u :: us=>fun r=>c * u r+lin cs us r
 | _,_=>fun _=>0
theorem Vd6:∀ (cs:List Int) (us:List Vec),InSp p R us (lin cs us)
 | [],us=>by cases us<;>exact Zz2
 | c :: cs,[]=>Zz2
 | c :: cs,u :: us=>⟨c,Q9_ (Vd6 cs us) fun r _=>by simp only [lin];omega⟩
theorem Ys8 {us:List Vec} {u:Vec} {k:Nat} (g:k<R) (j:¬ p ∣ u k) (d:∀ x∈us,p ∣ x k):¬ InSp p R us u:=by
 have m:∀ {us:List Vec} {v:Vec},(∀ x∈us,p ∣ x k)→InSp p R us v→p ∣ v k:=by
  intro us
  induction us with
  | nil=>intro v _ h;exact h k g
  | cons x us ih =>
   intro v d ⟨c,h⟩;have e:=ih (fun y hy=>d y q41_) h;have f:=Int.dvd_add e (Int.dvd_trans (d x j37_) (Int.dvd_mul_left c _))
   rwa [show v k - c * x k+c * x k=v k by omega] at f
 exact fun h=>j (m d h)
end Go.Proofs.YtnaebbjodfnooaaGreatDoor.Wp.L
namespace Go.Proofs.YtnaebbjodfnooaaGreatDoor.Wp.L
structure Line where
 place:Nat
 left:List Int
 lead:Nat
 inv:Int
 by_:Nat→Int
def L3_:List Int→Nat→Int
 | [],_=>-1
 | x :: xs,k=>if x=0 then L3_ xs (k+1) else (k:Int)
def leadI (l:List Int):Int:=L3_ l 0
theorem Zx6:∀ {l:List Int} {a i:Nat},i<l.length→l.getD i 0≠0→(∀ j,j<i→l.getD j 0=0)→L3_ l a=((a+i:Nat):Int)
 | x :: xs,a,0,_,hx,_=>by
  unfold L3_;rw [if_neg (by simpa using hx)];rfl
 | x :: xs,a,i+1,hi,hx,hz=>by
  unfold L3_;rw [if_pos (by simpa using hz 0 x37_),Zx6 (i:=i) j46_ (by simpa using hx) (fun j c=>by simpa using hz (j+1) x37_)];congr 1;omega
theorem T7_:∀ {l:List Int} {a:Nat},(∀ j,j<l.length→l.getD j 0=0)→L3_ l a=-1
 | [],_,_=>rfl
 | x :: xs,a,hz=>by
  unfold L3_;rw [if_pos (by simpa using hz 0 j37_),T7_ (fun j c=>by simpa using hz (j+1) (by simpa using c))]
theorem Zu8 {l:List Int} {i:Nat} (hi:i<l.length) (c:l.getD i 0≠0) (d:∀ j,j<i→l.getD j 0=0):leadI l=(i:Int):=by
 unfold leadI;rw [Zx6 hi c d];congr 1;omega
theorem Zz3 {l:List Int} (c:∀ j,j<l.length→l.getD j 0=0):leadI l=-1:=T7_ c
theorem R8_:∀ (l:List Int),(leadI l=-1∧∀ j,l.getD j 0=0)∨∃ i,i<l.length∧leadI l=(i:Int)∧l.getD i 0≠0∧∀ j,j<i→l.getD j 0=0:=by
 intro l;by_cases h:∀ j,j<l.length→l.getD j 0=0
 ·refine .inl ⟨Zz3 h,fun j=>?_⟩
  by_cases c:j<l.length
  ·exact h j c
  ·simp [List.getD,List.getElem?_eq_none (Nat.le_of_not_lt c)]
 ·right
  have:∃ i,i<l.length∧l.getD i 0≠0∧∀ j,j<i→l.getD j 0=0:=by
   apply Classical.byContradiction;intro g;apply h;intro j
   induction j using Nat.strongRecOn with
   | ind j ih =>
    intro c;apply Classical.byContradiction;intro m;exact g ⟨j,c,m,fun k f=>ih k f x37_⟩
  obtain ⟨i,hi,d,e⟩:=this;exact ⟨i,hi,Zu8 hi d e,d,e⟩
def upd (f:Nat→Int) (a:Nat) (t:Int):Nat→Int:=fun x=>if x=a then t else f x
def subU (p:Int) (left:List Int) (l:Line) (t:Int) (k:Nat):List Int :=
 (List.range left.length).map fun r=>if l.lead≤r∧r<k then (left.getD r 0 - t * l.left.getD r 0) % p else left.getD r 0
def tOf (p:Int) (left:List Int) (l:Line):Int:=(left.getD l.lead 0 * l.inv) % p
def stepT (p:Int) (s:List Int × (Nat→Int)) (l:Line):List Int × (Nat→Int) :=
 if tOf p s.1 l=0 then s else (subU p s.1 l (tOf p s.1 l) s.1.length,upd s.2 l.place (tOf p s.1 l))
def takeT (p:Int) (ls:List Line) (col:List Int):List Int × (Nat→Int):=ls.foldl (stepT p) (col,fun _=>0)
def addL (p:Int) (inv:Int→Int) (ls:List Line) (i:Nat) (col:List Int):List Line :=
 if leadI (takeT p ls col).1<0 then ls
 else ls ++ [⟨i,(takeT p ls col).1,(leadI (takeT p ls col).1).toNat,inv ((takeT p ls col).1.getD (leadI (takeT p ls col).1).toNat 0),(takeT p ls col).2⟩]
def R2_ (p:Int) (inv:Int→Int) (cols:List (List Int)):Nat→List Line
 | 0=>[]
 | k+1=>addL p inv (R2_ p inv cols k) k (cols.getD k [])
theorem R3_ {n r:Nat} (f:Nat→Int):((List.range n).map f).getD r 0=if r<n then f r else 0:=by
 by_cases h:r<n
 ·simp [List.getD,h]
 ·simp [List.getD,h]
theorem A3_ {p:Int} {left:List Int} {l:Line} {t:Int} {k:Nat}:(subU p left l t k).length=left.length:=by simp [subU]
theorem N5_ {p:Int} {left:List Int} {l:Line} {t:Int} {k r:Nat} (h:r<left.length) :
  (subU p left l t k).getD r 0=if l.lead≤r∧r<k then (left.getD r 0 - t * l.left.getD r 0) % p else left.getD r 0:=by
 unfold subU;rw [R3_,if_pos h]
theorem Zm9 {l:List Int} {r:Nat} (h:l.length≤r):l.getD r 0=0:=by simp [List.getD,List.getElem?_eq_none h]
def InR (p:Int) (R:Nat) (l:List Int):Prop:=l.length=R∧∀ x∈l,0≤x∧x<p
theorem InR.get {p:Int} {R:Nat} {l:List Int} (h:InR p R l) (d:0<p) (r:Nat):0≤l.getD r 0∧l.getD r 0<p:=by
 by_cases c:r<l.length
 ·rw [List.getD_eq_getElem?_getD,List.getElem?_eq_getElem c]
  exact h.2 _ (List.getElem_mem c)
 ·rw [Zm9 x37_]
  omega
theorem Zh5 {p:Int} {R:Nat} {l:List Int} (hl:l.length=R) (h:∀ r,r<R→0≤l.getD r 0∧l.getD r 0<p):InR p R l:=by
 refine ⟨hl,fun x c=>?_⟩;obtain ⟨i,hi,rfl⟩:=List.mem_iff_getElem.1 c;have:=h i x37_
 rwa [List.getD_eq_getElem?_getD,List.getElem?_eq_getElem hi] at this
theorem R9_ {p x:Int} (h:p ∣ x) (c:0≤x) (d:x<p):x=0:=by
 have:=Int.emod_eq_of_lt c d;rw [Int.emod_eq_zero_of_dvd h] at this;exact this.symm
theorem B8_ {p:Int} (x:Int):p ∣ x - x % p:=Int.dvd_self_sub_emod
def vec (l:List Int):Vec:=fun r=>l.getD r 0
structure LineOk (p:Int) (R:Nat) (l:Line):Prop where
 row:InR p R l.left
 lt:l.lead<R
 zero:∀ r,r<l.lead→l.left.getD r 0=0
 inv:p ∣ l.left.getD l.lead 0 * l.inv - 1
 invr:0≤l.inv∧l.inv<p
 byr:∀ x,0≤l.by_ x∧l.by_ x<p
 byp:∀ x,l.by_ x≠0→x<l.place
def Ech (p:Int) (R:Nat):List Line→Prop
 | []=>True
 | l :: ls=>LineOk p R l∧(∀ m∈ls,m.left.getD l.lead 0=0∧l.place<m.place)∧Ech p R ls
structure Taken (p:Int) (R:Nat) (ls:List Line) (left:List Int) (f:Nat→Int) (s:List Int × (Nat→Int)):Prop where
 row:InR p R s.1
 byr:∀ x,0≤s.2 x∧s.2 x<p
 off:∀ x,(∀ l∈ls,l.place≠x)→s.2 x=f x
 keep:∀ r,(∀ l∈ls,l.left.getD r 0=0)→s.1.getD r 0=left.getD r 0
 zero:∀ l∈ls,s.1.getD l.lead 0=0
 sum:∀ r,r<R→p ∣ left.getD r 0 - s.1.getD r 0 - lin (ls.map fun l=>s.2 l.place) (ls.map fun l=>vec l.left) r
theorem taken {p:Int} {R:Nat} (j:0<p):∀ {g:List Line} {left:List Int} {f:Nat→Int},Ech p R g→InR p R left→(∀ x,0≤f x∧f x<p)→(∀ l∈g,f l.place=0)→Taken p R g left f (g.foldl (stepT p) (left,f))
 | [],left,f,_,hl,hf,_=>⟨hl,hf,fun _ _=>rfl,fun _ _=>rfl,fun _ h=>z46_,fun r _=>(by simp [lin])⟩
 | l :: g,left,f,⟨hok,hbeh,hech⟩,hl,hf,hz=>by
  rw [List.foldl_cons];have A:∀ m∈g,m.place≠l.place:=fun m hm e=>by have:=(hbeh m hm).2;omega
  have E:∀ m∈g,f m.place=0:=fun m hm=>hz m q47_;by_cases B:tOf p left l=0
  ·have hs:stepT p (left,f) l=(left,f):=by unfold stepT;rw [if_pos B]
   rw [hs];have c:=taken j hech hl hf E;have v:left.getD l.lead 0=0:=by
    have D:=hl.get j l.lead;refine R9_ ?_ D.1 D.2;have o:p ∣ left.getD l.lead 0 * l.inv:=Int.dvd_of_emod_eq_zero B;have q:=Int.dvd_trans hok.inv (Int.dvd_mul_left (left.getD l.lead 0) _);have h3:=Int.dvd_trans o (Int.dvd_mul_right _ (l.left.getD l.lead 0));have w:=Int.dvd_sub h3 q;have e:left.getD l.lead 0 * l.inv * l.left.getD l.lead 0 - left.getD l.lead 0 * (l.left.getD l.lead 0 * l.inv - 1)=left.getD l.lead 0:=by
     rw [Int.mul_sub,Int.mul_one,Int.mul_assoc,Int.mul_comm l.inv];omega
    rwa [e] at w
   refine ⟨c.row,c.byr,fun x u=>c.off x fun m hm=>u m q47_,fun r d=>c.keep r fun m hm=>d m q47_,fun m hm=>?_,fun r d=>?_⟩
   ·rcases List.mem_cons.1 hm with rfl | hm
    ·rw [c.keep _ fun k z=>(hbeh k z).1]
     exact v
    ·exact c.zero m hm
   ·have:=c.sum r d
    simp only [List.map_cons,lin];rw [c.off l.place A,hz l j37_,Int.zero_mul,Int.zero_add];exact this
  ·obtain ⟨t,C⟩:∃ t,t=tOf p left l:=⟨_,rfl⟩
   have hs:stepT p (left,f) l=(subU p left l t left.length,upd f l.place t):=by unfold stepT;rw [if_neg B,← C]
   rw [hs];have I:0≤t∧t<p:=by rw [C];exact ⟨Int.emod_nonneg _ x37_,Int.emod_lt_of_pos _ j⟩
   have s:∀ r,r<R→(subU p left l t left.length).getD r 0=(left.getD r 0 - t * l.left.getD r 0) % p:=by
    intro r d;rw [N5_ (by rw [hl.1];exact d)];by_cases h:l.lead≤r
    ·rw [if_pos ⟨h,by rw [hl.1];exact d⟩]
    ·rw [if_neg x37_,hok.zero r x37_,Int.mul_zero,Int.sub_zero]
     have:=hl.get j r;exact (Int.emod_eq_of_lt this.1 this.2).symm
   have H:InR p R (subU p left l t left.length):=Zh5 (by rw [A3_];exact hl.1) fun r d=>by
    rw [s r d];exact ⟨Int.emod_nonneg _ x37_,Int.emod_lt_of_pos _ j⟩
   have F:∀ r,l.left.getD r 0=0→(subU p left l t left.length).getD r 0=left.getD r 0:=by
    intro r v;by_cases d:r<R
    ·rw [s r d,v,Int.mul_zero,Int.sub_zero]
     have:=hl.get j r;exact Int.emod_eq_of_lt this.1 this.2
    ·rw [Zm9 (by rw [A3_,hl.1];omega),Zm9 (by rw [hl.1];omega)]
   have G:(subU p left l t left.length).getD l.lead 0=0:=by
    rw [s _ hok.lt];apply Int.emod_eq_zero_of_dvd;have o:p ∣ left.getD l.lead 0 * l.inv - t:=by rw [C];exact B8_ _
    have q:=Int.dvd_trans o (Int.dvd_mul_right _ (l.left.getD l.lead 0));have h3:=Int.dvd_trans hok.inv (Int.dvd_mul_left (left.getD l.lead 0) _);have w:=Int.dvd_sub q h3;have e:(left.getD l.lead 0 * l.inv - t) * l.left.getD l.lead 0 - left.getD l.lead 0 * (l.left.getD l.lead 0 * l.inv - 1)=left.getD l.lead 0 - t * l.left.getD l.lead 0:=by
     rw [Int.mul_sub,Int.mul_one,Int.sub_mul,Int.mul_assoc,Int.mul_comm l.inv];omega
    rwa [e] at w
   have c:=taken j (f:=upd f l.place t) hech H (fun x=>by
    unfold upd;split
    ·exact I
    ·exact hf x) (fun m hm=>by
    unfold upd;rw [if_neg (A m hm)];exact E m hm)
   refine ⟨c.row,c.byr,fun x u=>?_,fun r d=>?_,fun m hm=>?_,fun r d=>?_⟩
   ·rw [c.off x fun m hm=>u m q47_]
    unfold upd;rw [if_neg fun e=>u l j37_ e.symm]
   ·rw [c.keep r fun m hm=>d m q47_]
    exact F r (d l j37_)
   ·rcases List.mem_cons.1 hm with rfl | hm
    ·rw [c.keep _ fun k z=>(hbeh k z).1]
     exact G
    ·exact c.zero m hm
   ·have o:=c.sum r d
    simp only [List.map_cons,lin];rw [c.off l.place A,show upd f l.place t l.place=t by unfold upd;rw [if_pos rfl]];have q:p ∣ left.getD r 0 - t * l.left.getD r 0 - (subU p left l t left.length).getD r 0:=by rw [s r d];exact B8_ _
    have h3:=Int.dvd_add o q;generalize lin (g.map fun J=>_) _ r=y at h3 ⊢;unfold vec;have e:(subU p left l t left.length).getD r 0 - ((g.foldl (stepT p) (subU p left l t left.length,upd f l.place t)).1).getD r 0 - y+(left.getD r 0 - t * l.left.getD r 0 - (subU p left l t left.length).getD r 0)
      = left.getD r 0 - ((g.foldl (stepT p) (subU p left l t left.length,upd f l.place t)).1).getD r 0 - (t * l.left.getD r 0+y):=x37_
    rwa [e] at h3
variable {p:Int} {R:Nat}
theorem Yk8:∀ {c:List Line} {l:Line},Ech p R c→LineOk p R l→(∀ m∈c,l.left.getD m.lead 0=0∧m.place<l.place)→Ech p R (c ++ [l])
 | [],l,_,hl,_=>⟨hl,fun _ h=>z46_,trivial⟩
 | m :: c,l,⟨hm,hb,he⟩,hl,h=>by
  refine ⟨hm,fun x hx=>?_,Yk8 he hl fun x hx=>h x x41_⟩;rcases List.mem_append.1 hx with hx | hx
  ·exact hb x hx
  ·obtain rfl:=List.mem_singleton.1 hx
   exact h m j37_
theorem Vd7:∀ {c:List Line},Ech p R c→∀ l∈c,LineOk p R l
 | m :: c,⟨hm,_,he⟩,l,hl=>by
  rcases List.mem_cons.1 hl with rfl | hl
  ·exact hm
  ·exact Vd7 he l hl
theorem Yk9:∀ {g:List Line} {v:Vec},Ech p R g→InSp p R (g.map fun l=>vec l.left) v→(∀ l∈g,p ∣ v l.lead)→∀ r,r<R→p ∣ v r
 | [],v,_,h,_=>h
 | l :: g,v,⟨hok,hb,he⟩,⟨c,h⟩,f=>by
  have A:∀ {us:List Line} {w:Vec},(∀ m∈us,m.left.getD l.lead 0=0)→InSp p R (us.map fun l=>vec l.left) w→p ∣ w l.lead:=by
   intro us
   induction us with
   | nil=>intro w _ h;exact h _ hok.lt
   | cons x us o =>
    intro w f ⟨d,h⟩;have j:p ∣ w l.lead - d * vec x.left l.lead:=o (fun m hm=>f m q47_) h;have k:vec x.left l.lead=0:=f x j37_
    rwa [k,Int.mul_zero,Int.sub_zero] at j
  have j:p ∣ v l.lead - c * vec l.left l.lead:=A (fun m hm=>(hb m hm).1) h;have k:=f l j37_;have h3:p ∣ c * vec l.left l.lead:=by
   have:=Int.dvd_sub k j
   rwa [show v l.lead - (v l.lead - c * vec l.left l.lead)=c * vec l.left l.lead by omega] at this
  have hc:p ∣ c:=by
   have u:=Int.dvd_trans h3 (Int.dvd_mul_right _ l.inv);have y:=Int.dvd_trans hok.inv (Int.dvd_mul_left c _);have q:=Int.dvd_sub u y;unfold vec at q;have e:c * l.left.getD l.lead 0 * l.inv - c * (l.left.getD l.lead 0 * l.inv - 1)=c:=by
    rw [Int.mul_sub,Int.mul_one,Int.mul_assoc];omega
   rwa [e] at q
  have s:∀ r,p ∣ c * vec l.left r:=fun r=>Int.dvd_trans hc (Int.dvd_mul_right c _);have o:=Yk9 he h fun m hm=>Int.dvd_sub (f m q47_) (s _);intro r z;have:=Int.dvd_add (o r z) (s r)
  rwa [show v r - c * vec l.left r+c * vec l.left r=v r by omega] at this
def colV (cols:List (List Int)) (i:Nat):Vec:=vec (cols.getD i [])
def G0_ (cols:List (List Int)) (k:Nat):List Vec:=(List.range k).map (colV cols)
theorem L4_ (cols:List (List Int)) (k:Nat):G0_ cols (k+1)=G0_ cols k ++ [colV cols k]:=by simp [G0_,List.range_succ]
def InB (p:Int) (R:Nat) (cols:List (List Int)) (i:Nat):Prop:=¬ InSp p R (G0_ cols i) (colV cols i)
open Classical in
noncomputable def basN (p:Int) (R:Nat) (cols:List (List Int)) (k:Nat):List Nat:=(List.range k).filter fun i=>decide (InB p R cols i)
theorem Xb3 {cols:List (List Int)} {k:Nat} (h:InB p R cols k):basN p R cols (k+1)=basN p R cols k ++ [k]:=by
 unfold basN;rw [List.range_succ,List.filter_append];simp [h]
theorem Yl0 {cols:List (List Int)} {k:Nat} (h:¬ InB p R cols k):basN p R cols (k+1)=basN p R cols k:=by
 unfold basN;rw [List.range_succ,List.filter_append];simp [h]
theorem basN_mem {cols:List (List Int)} {k i:Nat}:i∈basN p R cols k↔i<k∧InB p R cols i:=by
 unfold basN;simp [List.mem_filter]
structure Lines (p:Int) (R:Nat) (cols:List (List Int)) (k:Nat) (ls:List Line):Prop where
 ech:Ech p R ls
 pl:ls.map Line.place=basN p R cols k
 span:∀ v,InSp p R (ls.map fun l=>vec l.left) v↔InSp p R (G0_ cols k) v
 from_:∀ (a:List Line) (l:Line) (b:List Line),ls=a ++ l :: b →
  (∀ r,r<R→p ∣ colV cols l.place r - l.left.getD r 0 - lin (a.map fun m=>l.by_ m.place) (a.map fun m=>vec m.left) r)∧∀ x,l.by_ x≠0→∃ m∈a,m.place=x
theorem Lines.lt {cols:List (List Int)} {k:Nat} {c:List Line} (h:Lines p R cols k c) {l:Line} (hl:l∈c):l.place<k:=by
 have:l.place∈basN p R cols k:=by rw [← h.pl];exact List.mem_map.2 ⟨l,hl,rfl⟩
 exact (basN_mem.1 this).1
theorem Lines.take (d:0<p) {cols:List (List Int)} {k:Nat} {c:List Line} (h:Lines p R cols k c) {col:List Int} (hc:InR p R col):Taken p R c col (fun _=>0) (takeT p c col) :=
 taken d h.ech hc (fun _=>⟨x37_,d⟩) fun _ _=>rfl
theorem Lines.left (d:0<p) {cols:List (List Int)} {k:Nat} {c:List Line} (h:Lines p R cols k c) {col:List Int} (hc:InR p R col):InSp p R (G0_ cols k) fun r=>col.getD r 0 - (takeT p c col).1.getD r 0:=by
 rw [← h.span];refine T5_ (Vd6 (c.map fun l=>(takeT p c col).2 l.place) _) fun r e=>?_;have:=(h.take d hc).sum r e;rw [show lin (c.map fun l=>(takeT p c col).2 l.place) (c.map fun l=>vec l.left) r - (col.getD r 0 - (takeT p c col).1.getD r 0)=-(col.getD r 0 - (takeT p c col).1.getD r 0 - lin (c.map fun l=>(takeT p c col).2 l.place) (c.map fun l=>vec l.left) r) by omega];exact (Int.dvd_neg).2 this
theorem Lines.in_iff (d:0<p) {cols:List (List Int)} {k:Nat} {c:List Line} (h:Lines p R cols k c) {col:List Int} (hc:InR p R col):InSp p R (G0_ cols k) (vec col)↔leadI (takeT p c col).1<0:=by
 have e:=h.take d hc;have hl:=h.left d hc;constructor
 ·intro o
  have g:InSp p R (c.map fun l=>vec l.left) (vec (takeT p c col).1):=by
   rw [h.span];exact Q9_ (Yk4 o hl) fun r _=>by unfold vec;omega
  have m:=Yk9 h.ech g fun l hl=>by
   unfold vec;rw [e.zero l hl];exact Int.dvd_zero p
  have h3:leadI (takeT p c col).1=-1:=Zz3 fun j q=>by
   have f:=e.row.get d j;exact R9_ (m j (by rw [← e.row.1];exact q)) f.1 f.2
  rw [h3];decide
 ·intro s
  rcases R8_ (takeT p c col).1 with ⟨_,u⟩ | ⟨i,_,hi,_⟩
  ·refine Q9_ hl fun r _=>?_
   rw [u r];unfold vec;omega
  ·rw [hi] at s
   omega
theorem Lines.next (q:0<p) {inv:Int→Int} (K:∀ x,0<x→x<p→p ∣ x * inv x - 1∧0≤inv x∧inv x<p) {cols:List (List Int)} {k:Nat} {d:List Line} (h:Lines p R cols k d) (hc:InR p R (cols.getD k [])):Lines p R cols (k+1) (addL p inv d k (cols.getD k [])):=by
 have f:=h.take q hc;have hl:=h.left q hc;have C:=h.in_iff q hc;unfold addL;by_cases g:leadI (takeT p d (cols.getD k [])).1<0
 ·rw [if_pos g]
  have j:InSp p R (G0_ cols k) (colV cols k):=C.2 g;refine ⟨h.ech,by rw [Yl0 (fun w=>w j)];exact h.pl,fun v=>?_,h.from_⟩;rw [h.span,L4_];exact ⟨sp_mono fun x c=>List.mem_append.2 (.inl c),C4_ fun x c=>by
   rcases List.mem_append.1 c with c | c
   ·exact Q5_ c
   ·obtain rfl:=List.mem_singleton.1 c
    exact j⟩
 ·rw [if_neg g]
  have N:InB p R cols k:=fun j=>g (C.1 j);rcases R8_ (takeT p d (cols.getD k [])).1 with ⟨hi,_⟩ | ⟨i,J,hi,c,O⟩
  ·rw [hi] at g
   exact absurd q38_ g
  rw [hi,Int.toNat_natCast];generalize P:takeT p d (cols.getD k [])=T at *
  have I:i<R:=by rw [← f.row.1];exact J
  have H:=f.row.get q i;have D:=K (T.1.getD i 0) x37_ H.2;have B:∀ x,T.2 x≠0→∃ m∈d,m.place=x:=by
   intro x c;apply Classical.byContradiction;intro w;exact c (f.off x fun l hl e=>w ⟨l,hl,e⟩)
  have M:LineOk p R ⟨k,T.1,i,inv (T.1.getD i 0),T.2⟩:=⟨f.row,I,O,D.1,D.2,f.byr,fun x c=>by
   obtain ⟨m,o,rfl⟩:=B x c;exact h.lt o⟩
  refine ⟨Yk8 h.ech M fun m o=>⟨f.zero m o,h.lt o⟩,by rw [Xb3 N,List.map_append,h.pl];rfl,fun v=>?_,?_⟩
  ·rw [L4_,List.map_append]
   have L:InSp p R (G0_ cols k ++ [colV cols k]) (vec T.1):=by
    refine Q9_ (Yk4 (Q5_ (u:=colV cols k) j37_) (sp_mono (fun x c=>List.mem_append.2 (.inl c)) hl)) fun r _=>?_;unfold colV vec;omega
   have G:InSp p R (d.map (fun l=>vec l.left) ++ [vec T.1]) (colV cols k):=by
    refine Q9_ (Zb0 (Q5_ (u:=vec T.1) j37_) (sp_mono (us:=d.map fun l=>vec l.left) (fun x c=>List.mem_append.2 (.inl c)) ((h.span _).2 hl))) fun r _=>?_;unfold colV vec;omega
   constructor
   ·refine C4_ fun x c=>?_
    rcases List.mem_append.1 c with c | c
    ·exact sp_mono (fun y A=>List.mem_append.2 (.inl A)) ((h.span _).1 (Q5_ c))
    ·obtain rfl:=List.mem_singleton.1 c
     exact L
   ·refine C4_ fun x c=>?_
    rcases List.mem_append.1 c with c | c
    ·exact sp_mono (fun y A=>List.mem_append.2 (.inl A)) ((h.span _).2 (Q5_ c))
    ·obtain rfl:=List.mem_singleton.1 c
     exact G
  ·intro a l b e
   rcases List.eq_nil_or_concat b with rfl | ⟨E,z,rfl⟩
   ·obtain ⟨rfl,s⟩:=List.append_inj' e j37_
    injection s with s _;subst s;exact ⟨f.sum,B⟩
   ·rw [List.concat_eq_append,← List.cons_append,← List.append_assoc] at e
    obtain ⟨F,_⟩:=List.append_inj' e j37_;exact h.from_ a l E F
theorem Zb2 (d:0<p) {inv:Int→Int} (c:∀ x,0<x→x<p→p ∣ x * inv x - 1∧0≤inv x∧inv x<p) {cols:List (List Int)}:∀ {k:Nat},(∀ i,i<k→InR p R (cols.getD i []))→Lines p R cols k (R2_ p inv cols k)
 | 0,_=>⟨trivial,rfl,fun _=>Iff.rfl,fun a l b e=>by cases a<;>cases e⟩
 | k+1,hc=>(Zb2 d c fun i hi=>hc i x37_).next d c (hc k x37_)
end Go.Proofs.YtnaebbjodfnooaaGreatDoor.Wp.L
namespace Go.Proofs.YtnaebbjodfnooaaGreatDoor.Wp.L
variable {p:Int} {R:Nat}
structure Back (p:Int) (R:Nat) (cols:List (List Int)) (goal:List Int) (a b:List Line) (T:List Int):Prop where
 len:T.length=cols.length
 rng:∀ i,0≤T.getD i 0∧T.getD i 0<p
 off:∀ x,(∀ l∈a ++ b,l.place≠x)→T.getD x 0=0
 sum:∀ r,r<R→p ∣ goal.getD r 0 - lin (a.map fun l=>T.getD l.place 0) (a.map fun l=>vec l.left) r - lin (b.map fun l=>T.getD l.place 0) (b.map fun l=>colV cols l.place) r
def Zb3 (p:Int) (R:Nat) (cols:List (List Int)):Prop:=∀ i,i<cols.length→InR p R (cols.getD i [])
theorem Ys9 (cols:List (List Int)):G0_ cols cols.length=cols.map vec:=by
 unfold G0_;apply List.ext_getElem
 ·simp
 ·intro i c d
  simp at c;simp [colV,List.getD,c]
structure Told (p:Int) (R:Nat) (cols:List (List Int)) (goal T:List Int):Prop where
 len:T.length=cols.length
 rng:∀ i,0≤T.getD i 0∧T.getD i 0<p
 off:∀ i,T.getD i 0≠0→i∈basN p R cols cols.length
 sum:∀ r,r<R→p ∣ goal.getD r 0 - lin T (cols.map vec) r
end Go.Proofs.YtnaebbjodfnooaaGreatDoor.Wp.L
namespace Go.Proofs.YtnaebbjodfnooaaGreatDoor.Wp.L
variable {p:Int} {R:Nat}
theorem Yl1:∀ {us:List Vec},(∀ k (_:k<us.length),∃ q,q<R∧¬ p ∣ us[k] q∧∀ j (_:j<us.length),k<j→p ∣ us[j] q)→Ind p R us
 | [],_=>trivial
 | u :: us,h=>by
  refine ⟨?_,Yl1 fun k m=>?_⟩
  ·obtain ⟨q,e,c,d⟩:=h 0 j37_
   refine Ys8 e c fun x g=>?_;obtain ⟨j,f,rfl⟩:=List.mem_iff_getElem.1 g;exact d (j+1) k37_ x37_
  ·obtain ⟨q,e,c,d⟩:=h (k+1) k37_
   exact ⟨q,e,c,fun j f o=>d (j+1) k37_ x37_⟩
theorem rk_ge (c:Fld p) {us ws:List Vec} (hi:Ind p R us) (h:∀ u∈us,InSp p R ws u):us.length≤rk p R ws :=
 Yk6 c hi fun u d=>Zb1 (h u d)
theorem Xs6 (g:Fld p) {m:List Vec} {n:Nat} (y:n≤m.length) (hs:∀ k (_:k<m.length),k<n→∃ q,q<R∧¬ p ∣ m[k] q∧∀ j (_:j<m.length),k<j→p ∣ m[j] q)
  (x:∀ j (_:j<m.length),n≤j→∀ r,r<R→p ∣ m[j] r):rk p R m=n:=by
 have hl:(m.take n).length=n:=k39_;have hi:Ind p R (m.take n):=Yl1 fun k o=>by
  rw [hl] at o;obtain ⟨q,v,e,f⟩:=hs k x37_ o;refine ⟨q,v,by rw [List.getElem_take];exact e,fun j c s=>?_⟩;rw [hl] at c;rw [List.getElem_take];exact f j x37_ s
 have e:=rk_ge g (ws:=m) hi fun u d=>Q5_ (List.mem_of_mem_take d);have f:rk p R m≤rk p R (m.take n):=rk_le g fun u d=>by
  obtain ⟨j,c,rfl⟩:=List.mem_iff_getElem.1 d;rcases Nat.lt_or_ge j n with h | h
  ·exact Q5_ (List.mem_iff_getElem.2 ⟨j,x37_,List.getElem_take⟩)
  ·exact T5_ Zz2 fun r w=>by
    rw [show (0:Int) - m[j] r=-(m[j] r) by omega];exact (Int.dvd_neg).2 (x j c h r w)
 have h3:=Vd5 (p:=p) (R:=R) (us:=m.take n);omega
theorem Vh8 (c:Fld p) {us ws:List Vec} (h:∀ v,InSp p R us v↔InSp p R ws v):rk p R us=rk p R ws :=
 rk_eq c (fun u d=>(h u).1 (Q5_ d)) (fun w e=>(h w).2 (Q5_ e))
structure Steps (p:Int) (R:Nat) (cols m:List Vec) (n row:Nat):Prop where
 len:m.length=cols.length
 le:n≤m.length
 span:∀ v,InSp p R m v↔InSp p R cols v
 step:∀ k (_:k<m.length),k<n→∃ q,q<row∧¬ p ∣ m[k] q∧∀ j (_:j<m.length),k<j→p ∣ m[j] q
 zero:∀ j (_:j<m.length),n≤j→∀ q,q<row→p ∣ m[j] q
theorem Steps.start (cols:List Vec):Steps p R cols cols 0 0:=⟨rfl,Nat.zero_le _,fun _=>Iff.rfl,fun _ _ h=>by omega,fun _ _ _ _ h=>by omega⟩
theorem Steps.rank (c:Fld p) {cols m:List Vec} {n:Nat} (h:Steps p R cols m n R):rk p R cols=n:=by
 rw [← Vh8 c h.span];exact Xs6 c h.le h.step h.zero
theorem Steps.skip {cols m:List Vec} {n row:Nat} (h:Steps p R cols m n row) (u:∀ j (_:j<m.length),n≤j→p ∣ m[j] row):Steps p R cols m n (row+1) where
 len:=h.len
 le:=h.le
 span:=h.span
 step:=fun k o r=>by
  obtain ⟨q,s,f,g⟩:=h.step k o r;exact ⟨q,x37_,f,g⟩
 zero:=fun j c d q s=>by
  by_cases e:q=row
  ·subst e;exact u j c d
  ·exact h.zero j c d q x37_
theorem Steps.swap {cols m c:List Vec} {n row a:Nat} (h:Steps p R cols m n row) (ha:a<m.length) (H:n≤a) (hl:c.length=m.length)
  (s:∀ j (f:j<c.length) (r:j<m.length),c[j]=if j=n then m[a] else if j=a then m[n]'x37_ else m[j]):Steps p R cols c n row:=by
 have B:n<m.length:=x37_;have z:∀ x,x∈c↔x∈m:=by
  intro x;constructor
  ·intro o
   obtain ⟨j,g,rfl⟩:=List.mem_iff_getElem.1 o;rw [s j g x37_];split
   ·exact List.getElem_mem _
   ·split<;>exact List.getElem_mem _
  ·intro o
   obtain ⟨j,g,rfl⟩:=List.mem_iff_getElem.1 o;by_cases e:j=n
   ·subst e
    have:=s a x37_ ha;by_cases d:a=j
    ·subst d
     rw [if_pos rfl] at this;rw [← this];exact List.getElem_mem _
    ·rw [if_neg d,if_pos rfl] at this
     rw [← this];exact List.getElem_mem _
   ·by_cases d:j=a
    ·subst d
     have:=s n x37_ B;rw [if_pos rfl] at this;rw [← this];exact List.getElem_mem _
    ·have:=s j x37_ g
     rw [if_neg e,if_neg d] at this;rw [← this];exact List.getElem_mem _
 have w:∀ j (f:j<c.length),n≤j→∃ i,∃ (hi:i<m.length),n≤i∧c[j]=m[i]:=by
  intro j f r;have:=s j f x37_;by_cases e:j=n
  ·rw [if_pos e] at this
   exact ⟨a,ha,H,this⟩
  ·by_cases d:j=a
   ·rw [if_neg e,if_pos d] at this
    exact ⟨n,B,le_refl _,this⟩
   ·rw [if_neg e,if_neg d] at this
    exact ⟨j,x37_,r,this⟩
 have C:∀ j (f:j<c.length),j<n→c[j]=m[j]'x37_:=by
  intro j f r;rw [s j f x37_,if_neg x37_,if_neg x37_]
 refine ⟨hl.trans h.len,by rw [hl];exact h.le,fun v=>?_,fun k E y=>?_,fun j g G q u=>?_⟩
 ·rw [← h.span v]
  exact ⟨sp_mono fun x o=>(z x).1 o,sp_mono fun x o=>(z x).2 o⟩
 ·obtain ⟨q,u,f,r⟩:=h.step k x37_ y
  refine ⟨q,u,by rw [C k E y];exact f,fun j g F=>?_⟩;by_cases D:j<n
  ·rw [C j g D]
   exact r j x37_ F
  ·obtain ⟨i,hi,A,e⟩:=w j g x37_
   rw [e];exact r i hi x37_
 ·obtain ⟨i,hi,A,e⟩:=w j g G
  rw [e];exact h.zero i hi A q u
theorem Steps.take {cols m c:List Vec} {n row:Nat} (h:Steps p R cols m n row) (u:n<m.length) (hl:c.length=m.length) (H:¬ p ∣ m[n] row) (M:row<R)
  (s:∀ j (o:j<c.length) (f:j<m.length),j≤n→c[j]=m[j])
  (w:∀ j (o:j<c.length) (f:j<m.length),n<j→p ∣ c[j] row∧∃ k:Int,∀ r,r<R→p ∣ c[j] r - (m[j] r - k * m[n] r)):Steps p R cols c (n+1) (row+1):=by
 have C:∀ {j q:Nat} (o:j<c.length) (f:j<m.length),q<R→p ∣ m[j] q→p ∣ m[n] q→p ∣ c[j] q:=by
  intro j q o f I D K;by_cases d:j≤n
  ·rw [s j o f d]
   exact D
  ·obtain ⟨_,k,g⟩:=w j o f x37_
   have e:=Int.dvd_add (g q I) (Int.dvd_sub D (Int.dvd_trans K (Int.dvd_mul_left k _)))
   rwa [show c[j] q - (m[j] q - k * m[n] q)+(m[j] q - k * m[n] q)=c[j] q by omega] at e
 refine ⟨hl.trans h.len,x37_,fun v=>?_,fun k g B=>?_,fun j d L q J=>?_⟩
 ·rw [← h.span v]
  constructor
  ·refine C4_ fun x A=>?_
   obtain ⟨j,d,rfl⟩:=List.mem_iff_getElem.1 A;by_cases y:j≤n
   ·rw [s j d x37_ y]
    exact Q5_ (List.getElem_mem _)
   ·obtain ⟨_,k,g⟩:=w j d x37_ x37_
    refine T5_ (Yk4 (Q5_ (List.getElem_mem (show j<m.length by omega))) (T6_ k (Q5_ (List.getElem_mem u)))) fun r z=>?_;have:=g r z;rw [show m[j] r - k * m[n] r - c[j] r=-(c[j] r - (m[j] r - k * m[n] r)) by omega];exact (Int.dvd_neg).2 this
  ·have G:InSp p R c m[n]:=by
    rw [← s n x37_ u (le_refl _)];exact Q5_ (List.getElem_mem _)
   refine C4_ fun x A=>?_;obtain ⟨j,d,rfl⟩:=List.mem_iff_getElem.1 A;by_cases y:j≤n
   ·rw [← s j x37_ d y]
    exact Q5_ (List.getElem_mem _)
   ·obtain ⟨_,k,g⟩:=w j x37_ d x37_
    refine T5_ (Zb0 (Q5_ (List.getElem_mem (show j<c.length by omega))) (T6_ k G)) fun r z=>?_;have:=g r z
    rwa [show c[j] r+k * m[n] r - m[j] r=c[j] r - (m[j] r - k * m[n] r) by omega]
 ·by_cases F:k=n
  ·subst F
   refine ⟨row,x37_,by rw [s k g u (le_refl _)];exact H,fun j d B=>(w j d x37_ B).1⟩
  ·obtain ⟨q,J,o,f⟩:=h.step k x37_ x37_
   refine ⟨q,x37_,by rw [s k g x37_ x37_];exact o,fun j d E=>C d x37_ x37_ (f j x37_ E) (f n u x37_)⟩
 ·by_cases e:q=row
  ·subst e
   exact (w j d x37_ x37_).1
  ·exact C d x37_ x37_ (h.zero j x37_ x37_ q x37_) (h.zero n u (le_refl _) q x37_)
end Go.Proofs.YtnaebbjodfnooaaGreatDoor.Wp.L
namespace Go.Proofs.YtnaebbjodfnooaaGreatDoor.Wp.L
variable {p:Int} {R:Nat}
theorem Zu9 (c:Fld p) {cols:List (List Int)} {k:Nat} (h:InB p R cols k):rk p R (G0_ cols (k+1))=rk p R (G0_ cols k)+1:=by
 rw [L4_];exact Yb9 c h
theorem Zn0 (c:Fld p) {cols:List (List Int)} {k:Nat} (h:¬ InB p R cols k):rk p R (G0_ cols (k+1))=rk p R (G0_ cols k):=by
 rw [L4_];exact Ys7 c (Classical.not_not.1 h)
theorem Yc0 (c:Fld p) {cols:List (List Int)}:∀ (k:Nat),rk p R (G0_ cols k)=(basN p R cols k).length
 | 0=>rfl
 | k+1=>by
  by_cases h:InB p R cols k
  ·rw [Zu9 c h,Xb3 h,Yc0 c k]
   simp
  ·rw [Zn0 c h,Yl0 h,Yc0 c k]
theorem rk_cols (c:Fld p) (cols:List (List Int)):rk p R (cols.map vec)=(basN p R cols cols.length).length:=by
 rw [← Ys9];exact Yc0 c _
theorem Xb4 {cols:List (List Int)} {k:Nat}:(basN p R cols k).length≤k:=by
 unfold basN;have:=List.length_filter_le (fun i=>@decide (InB p R cols i) (Classical.propDecidable _)) (List.range k);simpa using this
end Go.Proofs.YtnaebbjodfnooaaGreatDoor.Wp.L
namespace Go.Proofs.YtnaebbjodfnooaaGreatDoor.Wp
def insP (P:Nat→Bool) (x:Nat):Nat→Bool:=fun i=>i==x || P i
def orP (P Q:Nat→Bool):Nat→Bool:=fun i=>P i || Q i
def andP (P Q:Nat→Bool):Nat→Bool:=fun i=>P i && Q i
def notP (P:Nat→Bool):Nat→Bool:=fun i=>!P i
def noneP:Nat→Bool:=fun _=>false
def allP:Nat→Bool:=fun _=>true
theorem Y7_ (P:Nat→Bool) (x:Nat):insP P x x=true:=by simp [insP]
theorem Y5_ {P:Nat→Bool} {x i:Nat} (h:i≠x):insP P x i=P i:=by simp [insP,h]
theorem H1_ {P:Nat→Bool} {x:Nat} (h:P x=true):insP P x=P:=by
 funext i
 by_cases e:i=x
 ·rw [e,Y7_,h]
 ·exact Y5_ e
theorem Zw0 (P:Nat→Bool) (x y:Nat):insP (insP P x) y=insP (insP P y) x:=by
 funext i
 simp only [insP];cases i==x<;>cases i==y<;>simp
structure Rk (n:Nat) (f:(Nat→Bool)→Nat):Prop where
 ext:∀ {P Q:Nat→Bool},(∀ i,i<n→P i=Q i)→f P=f Q
 zero:f noneP=0
 up:∀ {P:Nat→Bool} {x:Nat},x<n→P x=false→f P≤f (insP P x)
 one:∀ {P:Nat→Bool} {x:Nat},x<n→P x=false→f (insP P x)≤f P+1
 dim:∀ {P:Nat→Bool} {x y:Nat},x<n→y<n→x≠y→P x=false→P y=false→f (insP (insP P x) y)+f P≤f (insP P x)+f (insP P y)
section
variable {n:Nat} {f:(Nat→Bool)→Nat}
theorem Rk.up' (h:Rk n f) (P:Nat→Bool) {x:Nat} (c:x<n):f P≤f (insP P x):=by
 cases hp:P x
 ·exact h.up c hp
 ·rw [H1_ hp];exact le_refl _
theorem Rk.one' (h:Rk n f) (P:Nat→Bool) {x:Nat} (c:x<n):f (insP P x)≤f P+1:=by
 cases hp:P x
 ·exact h.one c hp
 ·rw [H1_ hp];exact Nat.le_succ _
theorem Rk.dim' (h:Rk n f) (P:Nat→Bool) {x y:Nat} (d:x<n) (g:y<n) (c:x≠y):f (insP (insP P x) y)+f P≤f (insP P x)+f (insP P y):=by
 cases hp:P x
 ·cases hq:P y
  ·exact h.dim d g c hp hq
  ·have e:insP (insP P x) y=insP P x:=H1_ (by rw [Y5_ (fun e=>c e.symm),hq])
   rw [e,H1_ hq];exact le_refl _
 ·rw [H1_ hp]
  omega
def addK (P S:Nat→Bool) (k:Nat):Nat→Bool:=fun i=>P i || (decide (i<k) && S i)
theorem H2_ (P S:Nat→Bool):addK P S 0=P:=by funext i;simp [addK]
theorem S0_ {P S:Nat→Bool} {k:Nat} (h:S k=false):addK P S (k+1)=addK P S k:=by
 funext i
 by_cases e:i=k
 ·subst e;simp [addK,h]
 ·have:decide (i<k+1)=decide (i<k):=decide_eq_decide.2 x37_
  simp [addK,this]
theorem L5_ {P S:Nat→Bool} {k:Nat} (h:S k=true):addK P S (k+1)=insP (addK P S k) k:=by
 funext i
 by_cases e:i=k
 ·subst e;simp [addK,insP,h]
 ·have:decide (i<k+1)=decide (i<k):=decide_eq_decide.2 x37_
  rw [Y5_ e];simp [addK,this]
theorem C5_ (h:Rk n f) (P S:Nat→Bool):f (addK P S n)=f (orP P S):=h.ext fun i hi=>by simp [addK,orP,hi]
theorem Rk.up_add (h:Rk n f) (P S:Nat→Bool):∀ k,k≤n→f P≤f (addK P S k)
 | 0,_=>by rw [H2_];exact le_refl _
 | k+1,hk=>by
  have c:=h.up_add P S k x37_;cases hs:S k
  ·rw [S0_ hs];exact c
  ·rw [L5_ hs];exact Nat.le_trans c (h.up' _ x37_)
theorem Rk.mono (h:Rk n f) {P Q:Nat→Bool} (hs:∀ i,i<n→P i=true→Q i=true):f P≤f Q:=by
 have c:=h.up_add P Q n (le_refl _);rw [C5_ h,h.ext (P:=orP P Q) (Q:=Q) (fun i hi=>by
  unfold orP;cases hp:P i
  ·simp
  ·simp [hs i hi hp])] at c
 exact c
theorem Rk.le_cnt (h:Rk n f) (P:Nat→Bool):f P≤cnt P n:=by
 have:∀ k,k≤n→f (addK noneP P k)≤cnt P k:=by
  intro k
  induction k with
  | zero=>intro _;rw [H2_,h.zero];exact Nat.zero_le _
  | succ k c =>
   intro e;have c:=c x37_;rw [X6_];cases hs:P k
   ·rw [S0_ hs];simpa using c
   ·rw [L5_ hs]
    have:=h.one' (addK noneP P k) (x:=k) x37_;simp;omega
 have d:=this n (le_refl _);rw [C5_ h] at d
 rwa [show orP noneP P=P from by funext i;simp [orP,noneP]] at d
theorem Rk.dim_add (h:Rk n f) (P S:Nat→Bool) {x:Nat} (d:x<n):∀ k,k≤n→f (insP (addK P S k) x)+f P≤f (insP P x)+f (addK P S k)
 | 0,_=>by rw [H2_];exact le_refl _
 | k+1,hk=>by
  have j:=h.dim_add P S d k x37_;cases hs:S k
  ·rw [S0_ hs];exact j
  ·rw [L5_ hs]
   by_cases e:x=k
   ·subst e
    have c:insP (insP (addK P S x) x) x=insP (addK P S x) x:=H1_ (Y7_ _ _);rw [c];have m:=h.up' P (x:=x) x37_;omega
   ·have c:=h.dim' (addK P S k) (x:=k) (y:=x) x37_ d (fun g=>e g.symm)
    omega
theorem Rk.dim_set (h:Rk n f) {P Q:Nat→Bool} (hs:∀ i,i<n→P i=true→Q i=true) {x:Nat} (d:x<n):f (insP Q x)+f P≤f (insP P x)+f Q:=by
 have c:=h.dim_add P Q d n (le_refl _);have e:∀ i,i<n→addK P Q n i=Q i:=fun i hi=>by
  simp only [addK,hi,decide_true,Bool.true_and];cases hp:P i
  ·simp
  ·simp [hs i hi hp]
 rw [h.ext e,h.ext (P:=insP (addK P Q n) x) (Q:=insP Q x) (fun i hi=>by unfold insP;rw [e i hi])] at c;exact c
theorem Rk.sub_add (h:Rk n f) {P Q:Nat→Bool} (hs:∀ i,i<n→P i=true→Q i=true) (Z:Nat→Bool):∀ k,k≤n→f (addK Q Z k)+f P≤f (addK P Z k)+f Q
 | 0,_=>by rw [H2_,H2_];omega
 | k+1,hk=>by
  have d:=h.sub_add hs Z k x37_;cases hz:Z k
  ·rw [S0_ hz,S0_ hz];exact d
  ·rw [L5_ hz,L5_ hz]
   have e:=h.dim_set (P:=addK P Z k) (Q:=addK Q Z k) (fun i hi c=>by
    unfold addK at c ⊢;cases hq:Q i
    ·have:P i=false:=by
      cases hpi:P i
      ·rfl
      ·rw [hs i hi hpi] at hq;cases hq
     rw [this] at c;exact c
    ·simp) (x:=k) x37_
   omega
theorem Rk.submod (h:Rk n f) (P Q:Nat→Bool):f (orP P Q)+f (andP P Q)≤f P+f Q:=by
 have d:=h.sub_add (P:=andP P Q) (Q:=P) (fun i _ c=>by unfold andP at c;simp at c;exact c.1) Q n (le_refl _);rw [C5_ h,C5_ h] at d;rw [show orP (andP P Q) Q=Q from by funext i;simp only [orP,andP];cases P i<;>cases Q i<;>rfl] at d;omega
theorem Rk.of_step (μ:(Nat→Bool)→Nat→Bool) (ext:∀ {P Q:Nat→Bool},(∀ i,i<n→P i=Q i)→f P=f Q) (zero:f noneP=0)
  (g:∀ {P:Nat→Bool} {x:Nat},x<n→P x=false→f (insP P x)=f P+if μ P x then 1 else 0)
  (h:∀ {P:Nat→Bool} {x y:Nat},x<n→y<n→x≠y→P x=false→P y=false→μ (insP P x) y=true→μ P y=true):Rk n f:=by
 refine ⟨ext,zero,fun d c=>?_,fun d c=>?_,fun {P x y} d hy hxy c hq=>?_⟩
 ·rw [g d c];exact Nat.le_add_right _ _
 ·rw [g d c];split<;>omega
 ·rw [g (P:=insP P x) hy (by rw [Y5_ (fun e=>hxy e.symm)];exact hq),g (P:=P) hy hq]
  cases h1:μ (insP P x) y
  ·simp
  ·rw [h d hy hxy c hq h1];simp;omega
theorem H3_ (n:Nat):Rk n (fun P=>cnt P n):=by
 refine Rk.of_step (fun _ _=>true) (fun {P Q} h=>Nat.le_antisymm (Zj3 fun v d c=>by rw [← h v d];exact c) (Zj3 fun v d c=>by rw [h v d];exact c)) ?_ (fun {P x} hx c=>?_) (fun _ _ _ _ _ _=>rfl)
 ·show cnt noneP n=0
  have:∀ n,cnt noneP n=0:=fun n=>by
   induction n with
   | zero=>simp [cnt]
   | succ n ih=>rw [X6_,ih];simp [noneP]
  exact this n
 ·show cnt (insP P x) n=cnt P n+_
  rw [Za6 (p:=insP P x) (q:=P) (Y7_ P x) c (fun v d=>Y5_ d),if_pos hx,if_pos rfl]
theorem B5_ (n:Nat):cnt noneP n=0:=(H3_ n).zero
theorem V9_ {P Q:Nat→Bool} (h:∀ i,i<n→P i=Q i):cnt P n=cnt Q n:=(H3_ n).ext h
theorem J6_ {P:Nat→Bool} {x:Nat} (e:x<n) (c:P x=false):cnt (insP P x) n=cnt P n+1:=by
 rw [Za6 (p:=insP P x) (q:=P) (Y7_ P x) c (fun v d=>Y5_ d),if_pos e]
theorem Yl2 (h:Rk n f) (a:Nat):Rk n (fun P=>min a (f P)):=by
 refine ⟨fun c=>by rw [h.ext c],by rw [h.zero];exact Nat.min_zero _,fun {P x} hx hp=>?_,fun {P x} hx hp=>?_,fun {P x y} hx hy hxy hp hq=>?_⟩
 ·have:=h.up hx hp;omega
 ·have:=h.one hx hp;omega
 ·have c:=h.dim hx hy hxy hp hq
  have d:=h.up hx hp;have h3:=h.up hy hq;have g:=h.one hx hp;have j:=h.one hy hq;have k:=h.up (P:=insP P x) hy (by rw [Y5_ (fun e=>hxy e.symm)];exact hq);omega
theorem Yl3 (P:Nat→Bool):∀ n,cnt (notP P) n+cnt P n=n
 | 0=>by simp [cnt]
 | n+1=>by
  have c:=Yl3 P n;rw [X6_,X6_];show _+(if (!P n)=true then 1 else 0)+_=_;cases hp:P n
  ·simp;omega
  ·simp;omega
theorem Zj4 {P:Nat→Bool} {x:Nat} (c:P x=false):insP (notP (insP P x)) x=notP P:=by
 funext i
 by_cases e:i=x
 ·subst e;rw [Y7_];simp [notP,c]
 ·rw [Y5_ e];simp [notP,Y5_ e]
theorem Vh9 (h:Rk n f):Rk n (fun P=>cnt P n+f (notP P) - f allP):=by
 have u:∀ P,f (notP P)≤f allP:=fun P=>h.mono fun _ _ _=>rfl;have k:∀ P,f allP≤cnt P n+f (notP P):=by
  intro P;have c:=h.submod (notP P) P;have j:=h.le_cnt P;have h3:orP (notP P) P=allP:=by funext i;simp only [orP,notP,allP];cases P i<;>rfl
  rw [h3] at c;omega
 have p:∀ {P:Nat→Bool} {x:Nat},x<n→P x=false→f (notP (insP P x))≤f (notP P)∧f (notP P)≤f (notP (insP P x))+1:=by
  intro P x d g;have c:=h.up' (notP (insP P x)) d;have j:=h.one' (notP (insP P x)) d;rw [Zj4 g] at c j;exact ⟨c,j⟩
 refine ⟨fun {P Q} c=>?_,?_,fun {P x} d g=>?_,fun {P x} d g=>?_,fun {P x y} d hy hxy g hq=>?_⟩
 ·rw [V9_ c,h.ext (P:=notP P) (Q:=notP Q) (fun i hi=>by unfold notP;rw [c i hi])]
 ·show cnt noneP n+f (notP noneP) - f allP=0
  rw [B5_,show notP noneP=allP from rfl];omega
 ·have c:=p d g
  have j:=J6_ d g;show cnt P n+f (notP P) - f allP≤cnt (insP P x) n+f (notP (insP P x)) - f allP;omega
 ·have c:=p d g
  have j:=J6_ d g;have h3:=k P;show cnt (insP P x) n+f (notP (insP P x)) - f allP≤cnt P n+f (notP P) - f allP+1;omega
 ·have o:insP P x y=false:=by rw [Y5_ (fun e=>hxy e.symm)];exact hq
  have s:insP P y x=false:=by rw [Y5_ hxy];exact g
  have c1:=J6_ d g;have c2:=J6_ hy hq;have c3:=J6_ (P:=insP P x) hy o;have v:=k P;have w:=k (insP P x);have z:=k (insP P y);have A:=k (insP (insP P x) y);have c:=h.dim' (notP (insP (insP P x) y)) d hy hxy;have q:insP (notP (insP (insP P x) y)) y=notP (insP P x):=Zj4 o;have m:insP (notP (insP (insP P x) y)) x=notP (insP P y):=by rw [Zw0];exact Zj4 s
  have r:insP (insP (notP (insP (insP P x) y)) x) y=notP P:=by rw [m];exact Zj4 hq
  rw [r,q,m] at c;show cnt (insP (insP P x) y) n+f (notP (insP (insP P x) y)) - f allP+(cnt P n+f (notP P) - f allP)≤cnt (insP P x) n+f (notP (insP P x)) - f allP+(cnt (insP P y) n+f (notP (insP P y)) - f allP);omega
def imgP (n:Nat) (φ:Nat→Nat) (P:Nat→Bool):Nat→Bool:=fun y=>(List.range n).any fun i=>P i && φ i==y
theorem imgP_iff {φ:Nat→Nat} {P:Nat→Bool} {y:Nat}:imgP n φ P y=true↔∃ i,i<n∧P i=true∧φ i=y:=by
 unfold imgP;simp only [List.any_eq_true,List.mem_range,Bool.and_eq_true,beq_iff_eq]
theorem Xb5 (φ:Nat→Nat):imgP n φ noneP=noneP:=by
 funext y
 exact Bool.eq_false_iff.2 (fun h=>by obtain ⟨i,_,c,_⟩:=imgP_iff.1 h;cases c)
theorem Xs7 {φ:Nat→Nat} {P:Nat→Bool} {x:Nat} (d:x<n):imgP n φ (insP P x)=insP (imgP n φ P) (φ x):=by
 funext y
 rw [Bool.eq_iff_iff,imgP_iff];unfold insP;simp only [Bool.or_eq_true,beq_iff_eq,imgP_iff];constructor
 ·rintro ⟨i,hi,c | c,rfl⟩
  ·left;rw [c]
  ·exact .inr ⟨i,hi,c,rfl⟩
 ·rintro (rfl | ⟨i,hi,c,rfl⟩)
  ·exact ⟨x,d,.inl rfl,rfl⟩
  ·exact ⟨i,hi,.inr c,rfl⟩
theorem Vi0 {φ:Nat→Nat} {P:Nat→Bool} {x:Nat} (g:∀ i j,i<n→j<n→φ i=φ j→i=j) (f:x<n) (d:P x=false):imgP n φ P (φ x)=false:=by
 refine Bool.eq_false_iff.2 fun h=>?_;obtain ⟨i,hi,c,e⟩:=imgP_iff.1 h;rw [g i x hi f e,d] at c;cases c
theorem Xs8 {φ:Nat→Nat} {P Q:Nat→Bool} (h:∀ i,i<n→P i=Q i):imgP n φ P=imgP n φ Q:=by
 funext y
 rw [Bool.eq_iff_iff,imgP_iff,imgP_iff];exact ⟨fun ⟨i,hi,c,e⟩=>⟨i,hi,by rw [← h i hi];exact c,e⟩,fun ⟨i,hi,c,e⟩=>⟨i,hi,by rw [h i hi];exact c,e⟩⟩
theorem Vd8 {k:Nat} (h:Rk n f) {φ:Nat→Nat} (q:∀ i j,i<k→j<k→φ i=φ j→i=j) (g:∀ i,i<k→φ i<n) (T:Nat→Bool) (r:∀ i,i<k→T (φ i)=false):Rk k (fun P=>f (orP T (imgP k φ P)) - f T):=by
 have s:∀ P,f T≤f (orP T (imgP k φ P)):=fun P=>h.mono fun i _ u=>by unfold orP;rw [u];rfl
 have o:∀ {P:Nat→Bool} {x:Nat},x<k→orP T (imgP k φ (insP P x))=insP (orP T (imgP k φ P)) (φ x):=by
  intro P x c;rw [Xs7 c]
  funext i
  simp only [orP,insP];cases T i<;>cases i==φ x<;>rfl
 have m:∀ {P:Nat→Bool} {x:Nat},x<k→P x=false→orP T (imgP k φ P) (φ x)=false:=by
  intro P x c d;unfold orP;rw [r x c,Vi0 q c d];rfl
 refine ⟨fun {P Q} p=>?_,?_,fun {P x} c d=>?_,fun {P x} c d=>?_,fun {P x y} c hy hxy d hq=>?_⟩
 ·rw [Xs8 p]
 ·show f (orP T (imgP k φ noneP)) - f T=0
  rw [Xb5,show orP T noneP=T from by funext i;simp [orP,noneP],Nat.sub_self]
 ·show f (orP T (imgP k φ P)) - f T≤f (orP T (imgP k φ (insP P x))) - f T
  rw [o c];have:=h.up (g x c) (m c d);omega
 ·show f (orP T (imgP k φ (insP P x))) - f T≤f (orP T (imgP k φ P)) - f T+1
  rw [o c];have:=h.one (g x c) (m c d);omega
 ·show f (orP T (imgP k φ (insP (insP P x) y))) - f T+(f (orP T (imgP k φ P)) - f T)≤f (orP T (imgP k φ (insP P x))) - f T+(f (orP T (imgP k φ (insP P y))) - f T)
  rw [o hy,o c,o hy];have p:=h.dim (g x c) (g y hy) (fun e=>hxy (q x y c hy e)) (m c d) (m hy hq);have m0:=s P;have m1:=h.up (g x c) (m c d);have m2:=h.up (g y hy) (m hy hq);omega
end
theorem Vt8 {n m:Nat} {f g:(Nat→Bool)→Nat} (k:Rk n f) (o:Rk m g):Rk (n+m) (fun P=>f P+g (fun i=>P (n+i))):=by
 have c:∀ {P:Nat→Bool} {x:Nat},n≤x→f (insP P x)=f P:=fun {P x} hx=>k.ext fun i hi=>Y5_ x37_;have d:∀ {P:Nat→Bool} {x:Nat},x<n→(fun i=>insP P x (n+i))=fun i=>P (n+i):=fun {P x} hx=>by funext i;exact Y5_ x37_
 have e:∀ {P:Nat→Bool} {x:Nat},n≤x→(fun i=>insP P x (n+i))=insP (fun i=>P (n+i)) (x - n):=fun {P x} hx=>by
  funext i
  show (n+i==x || P (n+i))=(i==x - n || P (n+i));have:(n+i==x)=(i==x - n):=by rw [Bool.eq_iff_iff,beq_iff_eq,beq_iff_eq];omega
  rw [this]
 have p:∀ {P:Nat→Bool} {x:Nat},n≤x→P x=false→(fun i=>P (n+i)) (x - n)=false:=fun {P x} hx hp=>by
  show P (n+(x - n))=false;rw [show n+(x - n)=x by omega];exact hp
 refine ⟨fun {P Q} h1=>?_,?_,fun {P x} hx hp=>?_,fun {P x} hx hp=>?_,fun {P x y} hx hy hxy hp hq=>?_⟩
 ·rw [k.ext (fun i hi=>h1 i x37_),o.ext (fun i hi=>h1 (n+i) x37_)]
 ·show f noneP+g noneP=0
  rw [k.zero,o.zero]
 ·show f P+g (fun i=>P (n+i))≤f (insP P x)+g (fun i=>insP P x (n+i))
  by_cases h:x<n
  ·rw [d h];have:=k.up h hp;omega
  ·rw [c x37_,e x37_];have:=o.up (P:=fun i=>P (n+i)) (x:=x - n) x37_ (p (P:=P) (x:=x) x37_ hp);omega
 ·show f (insP P x)+g (fun i=>insP P x (n+i))≤f P+g (fun i=>P (n+i))+1
  by_cases h:x<n
  ·rw [d h];have:=k.one h hp;omega
  ·rw [c x37_,e x37_];have:=o.one (P:=fun i=>P (n+i)) (x:=x - n) x37_ (p (P:=P) (x:=x) x37_ hp);omega
 ·show f (insP (insP P x) y)+g (fun i=>insP (insP P x) y (n+i))+(f P+g (fun i=>P (n+i)))≤f (insP P x)+g (fun i=>insP P x (n+i))+(f (insP P y)+g (fun i=>insP P y (n+i)))
  by_cases h:x<n
  ·by_cases j:y<n
   ·rw [d j,d h,d j];have:=k.dim h j hxy hp hq;omega
   ·rw [c (P:=insP P x) x37_,c (P:=P) (x:=y) x37_,e (P:=insP P x) x37_,d h,e (P:=P) (x:=y) x37_]
    omega
  ·by_cases j:y<n
   ·have q:f (insP (insP P x) y)=f (insP P y):=by rw [Zw0];exact c x37_
    have r:f (insP P x)=f P:=c x37_;rw [q,r,d (P:=insP P x) j,d (P:=P) j];omega
   ·rw [c (P:=insP P x) x37_,c (P:=P) (x:=x) x37_,c (P:=P) (x:=y) x37_,e (P:=insP P x) x37_,e (P:=P) (x:=x) x37_,e (P:=P) (x:=y) x37_]
    have:=o.dim (P:=fun i=>P (n+i)) (x:=x - n) (y:=y - n) x37_ x37_ x37_ (p (P:=P) (x:=x) x37_ hp) (p (P:=P) (x:=y) x37_ hq);omega
end Go.Proofs.YtnaebbjodfnooaaGreatDoor.Wp
namespace Go.Proofs.YtnaebbjodfnooaaGreatDoor.Wp.K
theorem nodup_le {α:Type} [DecidableEq α]:∀ {a b:List α},a.Nodup→(∀ x∈a,x∈b)→a.length≤b.length
 | [],b,_,_=>by simp
 | x :: a,b,c,h=>by
  obtain ⟨d,c⟩:=List.nodup_cons.1 c;have hb:x∈b:=h x j37_;have f:=nodup_le (a:=a) (b:=b.erase x) c fun y hy=>(List.mem_erase_of_ne (fun e=>d (by rw [← e];exact hy))).2 (h y q41_);rw [List.length_erase_of_mem hb] at f;have:0<b.length:=List.length_pos_of_mem hb;simp;omega
def cntP (n:Nat) (p:Nat→Bool):Nat:=((List.range n).filter p).length
theorem C6_ (n:Nat) (p:Nat→Bool):cntP (n+1) p=cntP n p+if p n then 1 else 0:=by
 unfold cntP;exact j24_
theorem Yc1 (p:Nat→Bool):∀ n,cntP n p≤n
 | 0=>le_refl _
 | n+1=>by
  have:=Yc1 p n;rw [C6_];split<;>omega
theorem Zb4 {p q:Nat→Bool}:∀ {n:Nat},(∀ i,i<n→p i=true→q i=true)→cntP n p≤cntP n q
 | 0,_=>le_refl _
 | n+1,h=>by
  have c:=Zb4 (n:=n) fun i hi=>h i x37_;rw [C6_,C6_];have:=h n x37_;cases hp:p n
  ·simp;omega
  ·simp [this hp];omega
theorem cntP_split (p q:Nat→Bool):∀ n,cntP n p=cntP n (fun i=>p i && q i)+cntP n fun i=>p i && !q i
 | 0=>rfl
 | n+1=>by
  have c:=cntP_split p q n;rw [C6_,C6_,C6_,c];cases p n<;>cases q n<;>simp<;>omega
theorem Yc2 (n:Nat):(List.range n).Nodup:=List.nodup_range
theorem cntP_inj {n R:Nat} {p q:Nat→Bool} (f:Nat→Nat) (r:∀ i,i<n→p i=true→f i<R∧q (f i)=true) (hi:∀ i j,i<n→j<n→p i=true→p j=true→f i=f j→i=j):cntP n p≤cntP R q:=by
 have k:(((List.range n).filter p).map f).Nodup:=by
  have h:((List.range n).filter p).Nodup:=(Yc2 n).sublist List.filter_sublist;refine List.pairwise_map.2 (List.Pairwise.imp_of_mem ?_ h);intro a b ha hb o e;have c:=List.mem_filter.1 ha;have d:=List.mem_filter.1 hb;exact o (hi a b (List.mem_range.1 c.1) (List.mem_range.1 d.1) c.2 d.2 e)
 have m:=nodup_le (b:=(List.range R).filter q) k fun x s=>by
  obtain ⟨i,hi,rfl⟩:=List.mem_map.1 s;have g:=List.mem_filter.1 hi;have:=r i (List.mem_range.1 g.1) g.2;exact List.mem_filter.2 ⟨List.mem_range.2 this.1,this.2⟩
 unfold cntP;simpa using m
def Goes (adj:List (List Int)) (i r:Nat):Prop:=(r:Int)∈adj.getD i []
def OnR (R:Nat) (adj:List (List Int)):Prop:=∀ i x,x∈adj.getD i []→∃ r:Nat,x=(r:Int)∧r<R
theorem goes_lt {adj:List (List Int)} {i r:Nat} (h:Goes adj i r):i<adj.length:=by
 rcases Nat.lt_or_ge i adj.length with hl | hl
 ·exact hl
 ·unfold Goes at h
  rw [List.getD_eq_getElem?_getD,List.getElem?_eq_none hl] at h;exact absurd h j37_
structure Mat (R:Nat) (adj:List (List Int)) (h:Nat→Int):Prop where
 ok:∀ i,i<adj.length→h i=-1∨∃ r:Nat,r<R∧h i=(r:Int)∧Goes adj i r
 inj:∀ i j,i<adj.length→j<adj.length→h i=h j→h i≠-1→i=j
def msize (adj:List (List Int)) (h:Nat→Int):Nat:=cntP adj.length fun i=>decide (h i≠-1)
def Cov (adj:List (List Int)) (A B:Nat→Bool):Prop:=∀ i r,Goes adj i r→A i=true∨B r=true
theorem mat_le_cov {R:Nat} {adj:List (List Int)} {h:Nat→Int} {A B:Nat→Bool} (g:Mat R adj h) (hc:Cov adj A B):msize adj h≤cntP adj.length A+cntP R B:=by
 unfold msize;rw [cntP_split _ A];have u:cntP adj.length (fun i=>decide (h i≠-1) && A i)≤cntP adj.length A:=Zb4 fun i _ hi=>by
  rw [Bool.and_eq_true] at hi;exact hi.2
 have v:cntP adj.length (fun i=>decide (h i≠-1) && !A i)≤cntP R B:=cntP_inj (fun i=>(h i).toNat) (fun i hi c=>by
  rw [Bool.and_eq_true,decide_eq_true_iff] at c;rcases g.ok i hi with e | ⟨r,q,e,p⟩
  ·exact absurd e c.1
  ·rw [e,Int.toNat_natCast]
   refine ⟨q,(hc i r p).resolve_left ?_⟩;intro ha;rw [ha] at c;exact absurd c.2 j37_) (fun i j hi k c m e=>by
  rw [Bool.and_eq_true,decide_eq_true_iff] at c m;rcases g.ok i hi with d | ⟨r,_,d,_⟩
  ·exact absurd d c.1
  ·rcases g.ok j k with f | ⟨s,_,f,_⟩
   ·exact absurd f m.1
   ·refine g.inj i j hi k ?_ c.1
    have o:r=s:=by simpa [d,f] using e
    rw [d,f,o])
 omega
def Clo (adj:List (List Int)) (os:Nat→Int) (S:Nat→Prop):Prop:=∀ r,S r→∃ j:Nat,os r=(j:Int)∧∀ x,Goes adj j x→S x
structure Pairs (R:Nat) (adj:List (List Int)) (hs os:Nat→Int):Prop where
 l:∀ i,i<adj.length→hs i=-1∨∃ r:Nat,r<R∧hs i=(r:Int)∧Goes adj i r∧os r=(i:Int)
 r:∀ r,r<R→os r=-1∨∃ i:Nat,i<adj.length∧os r=(i:Int)∧hs i=(r:Int)
theorem Pairs.mat {R:Nat} {adj:List (List Int)} {hs os:Nat→Int} (h:Pairs R adj hs os):Mat R adj hs where
 ok:=fun i hi=>(h.l i hi).imp id fun ⟨r,a,b,c,_⟩=>⟨r,a,b,c⟩
 inj:=fun i j hi k e g=>by
  rcases h.l i hi with d | ⟨r,_,d,_,m⟩
  ·exact absurd d g
  ·rcases h.l j k with f | ⟨s,_,f,_,o⟩
   ·exact absurd (e.trans f) g
   ·have:r=s:=by
     have:=d.symm.trans (e.trans f);omega
    subst this;have:=m.symm.trans o;omega
def updI (f:Nat→Int) (a:Nat) (t:Int):Nat→Int:=fun x=>if x=a then t else f x
def updB (f:Nat→Bool) (a:Nat):Nat→Bool:=fun x=>if x=a then true else f x
structure Found (R:Nat) (adj:List (List Int)) (hs os:Nat→Int) (al:Nat→Bool) (i:Nat) (hs' os':Nat→Int):Prop where
 a:∃ r:Nat,r<R∧hs' i=(r:Int)∧Goes adj i r∧os' r=(i:Int)∧al r=false
 b:∀ j,j<adj.length→j≠i→(hs j=-1↔hs' j=-1)
 c:∀ j,j<adj.length→hs' j=-1∨∃ r:Nat,r<R∧hs' j=(r:Int)∧Goes adj j r∧os' r=(j:Int)
 d:∀ r,r<R→os' r=-1∨∃ j:Nat,j<adj.length∧os' r=(j:Int)∧(hs' j=(r:Int)∨(j=i∧hs i=(r:Int)))
 e:∀ r,al r=true→os' r=os r
 f:∀ S,Clo adj os S→(¬ ∀ x,Goes adj i x→S x)∧∀ r,S r→os' r=os r
structure Missed (adj:List (List Int)) (os:Nat→Int) (al:Nat→Bool) (i:Nat) (al':Nat→Bool):Prop where
 up:∀ r,al r=true→al' r=true
 all:∀ x,Goes adj i x→al' x=true
 cl:∀ r,al' r=true→al r=false→∃ j:Nat,os r=(j:Int)∧∀ x,Goes adj j x→al' x=true
structure Tried (adj:List (List Int)) (os:Nat→Int) (al:Nat→Bool) (i k:Nat) (al':Nat→Bool):Prop where
 up:∀ r,al r=true→al' r=true
 all:∀ m x,m<k→(adj.getD i [])[m]?=some ((x:Nat):Int)→al' x=true
 cl:∀ r,al' r=true→al r=false→∃ j:Nat,os r=(j:Int)∧∀ x,Goes adj j x→al' x=true
variable {R:Nat} {adj:List (List Int)} {hs os hs' os':Nat→Int} {al al' al'':Nat→Bool} {i k j r:Nat}
theorem Yt0:Tried adj os al i 0 al:=⟨fun _ h=>h,fun _ _ h=>by omega,fun r h k=>by rw [h] at k;cases k⟩
theorem Tried.skip (h:Tried adj os al i k al') (d:(adj.getD i [])[k]?=some (r:Int)) (ha:al' r=true):Tried adj os al i (k+1) al' :=
 ⟨h.up,fun m x f c=>by
  by_cases e:m=k
  ·subst e
   rw [d] at c;have:r=x:=by
    injection c with c;omega
   exact this▸ha
  ·exact h.all m x x37_ c,h.cl⟩
theorem Tried.miss (h:Tried adj os al i k al') (v:(adj.getD i [])[k]?=some (r:Int)) (s:os r=(j:Int)) (d:Missed adj os (updB al' r) j al''):Tried adj os al i (k+1) al'':=by
 have f:∀ x,al' x=true→al'' x=true:=fun x c=>d.up x (by unfold updB;split<;>first | rfl | exact c);have w:al'' r=true:=d.up r (by unfold updB;rw [if_pos rfl]);refine ⟨fun x c=>f x (h.up x c),fun m x A c=>?_,fun x o p=>?_⟩
 ·by_cases e:m=k
  ·subst e
   rw [v] at c;have:r=x:=by
    injection c with c;omega
   exact this▸w
  ·exact f x (h.all m x x37_ c)
 ·by_cases g:x=r
  ·subst g
   exact ⟨j,s,d.all⟩
  ·rcases c:al' x with _ | _
   ·exact d.cl x o (by unfold updB;rw [if_neg g];exact c)
   ·obtain ⟨q,e,u⟩:=h.cl x c p
    exact ⟨q,e,fun y z=>f y (u y z)⟩
theorem Tried.done (h:Tried adj os al i k al') (e:(adj.getD i []).length≤k):Missed adj os al i al' :=
 ⟨h.up,fun x d=>by
  obtain ⟨m,c⟩:=List.mem_iff_getElem?.1 d;have:m<(adj.getD i []).length:=(List.getElem?_eq_some_iff.1 c).1;exact h.all m x x37_ c,h.cl⟩
theorem Yt1 (h:Pairs R adj hs os) (hi:i<adj.length) (hr:r<R) (hg:Goes adj i r) (v:os r=-1) (ha:al r=false):Found R adj hs os al i (updI hs i r) (updI os r i):=by
 have u:∀ j,j<adj.length→hs j≠(r:Int):=by
  intro j c e;rcases h.l j c with d | ⟨s,_,d,_,o⟩
  ·omega
  ·have:s=r:=by omega
   subst this;omega
 refine ⟨⟨r,hr,if_pos rfl,hg,if_pos rfl,ha⟩,fun j _ c=>by unfold updI;rw [if_neg c],fun j c=>?_,fun s hs'=>?_,fun s hs'=>?_,fun S m=>⟨fun q=>?_,fun s hs'=>?_⟩⟩
 ·unfold updI
  by_cases e:j=i
  ·exact j26_
  ·rw [if_neg e]
   rcases h.l j c with d | ⟨s,g,f,h3,p⟩
   ·exact .inl d
   ·refine .inr ⟨s,g,f,h3,?_⟩
    rw [if_neg]
    ·exact p
    ·rintro rfl
     exact u j c f
 ·unfold updI
  by_cases e:s=r
  ·exact k25_
  ·rw [if_neg e]
   rcases h.r s hs' with d | ⟨j,g,f,h3⟩
   ·exact .inl d
   ·refine .inr ⟨j,g,f,?_⟩
    by_cases k:j=i
    ·subst k
     exact .inr ⟨rfl,h3⟩
    ·rw [if_neg k]
     exact .inl h3
 ·unfold updI
  rw [if_neg];rintro rfl;rw [ha] at hs';cases hs'
 ·obtain ⟨j,e,_⟩:=m r (q r hg)
  omega
 ·unfold updI
  rw [if_neg];rintro rfl;obtain ⟨j,e,_⟩:=m _ hs';omega
theorem Yt2 (v:Pairs R adj hs os) (hi:i<adj.length) (E:hs i=-1∨∃ q:Nat,hs i=(q:Int)∧al q=true) (hr:r<R) (hg:Goes adj i r) (O:os r=(j:Int)) (H:∀ x,al x=true→al' x=true) (ha:al' r=false)
  (hF:Found R adj hs os (updB al' r) j hs' os'):Found R adj hs os al i (updI hs' i r) (updI os' r i):=by
 have y:al r=false:=by
  rcases h:al r with _ | _
  ·rfl
  ·rw [H r h] at ha
   cases ha
 have G:∀ x,al x=true→updB al' r x=true:=fun x W=>by unfold updB;split<;>first | rfl | exact H x W
 obtain ⟨x1,x2⟩:j<adj.length∧hs j=(r:Int):=by
  rcases v.r r hr with e | ⟨q,k,m,h3⟩
  ·omega
  ·have:q=j:=by omega
   subst this;exact ⟨k,h3⟩
 have D:j≠i:=by
  rintro rfl;rcases E with e | ⟨q,e,g⟩
  ·omega
  ·have:q=r:=by omega
   subst this;rw [y] at g;cases g
 obtain ⟨Y,x5,Z,x0,o1,w⟩:=hF.a;have x6:Y≠r:=by
  rintro rfl;unfold updB at w;rw [if_pos rfl] at w;cases w
 have x4:os' r=(j:Int):=(hF.e r (by unfold updB;rw [if_pos rfl])).trans O;refine ⟨⟨r,hr,if_pos rfl,hg,if_pos rfl,y⟩,fun q g U=>?_,fun q g=>?_,fun s V=>?_,fun s z=>?_,fun S C=>?_⟩
 ·unfold updI
  rw [if_neg U];by_cases e:q=j
  ·subst e
   constructor
   ·intro h;omega
   ·intro h;omega
  ·exact hF.b q g e
 ·unfold updI
  by_cases e:q=i
  ·exact j26_
  ·rw [if_neg e]
   rcases hF.c q g with p | ⟨s,k,m,h3,u⟩
   ·exact .inl p
   ·refine .inr ⟨s,k,m,h3,?_⟩
    rw [if_neg]
    ·exact u
    ·rintro rfl
     have:q=j:=x37_;subst this;omega
 ·unfold updI
  by_cases e:s=r
  ·exact k25_
  ·rw [if_neg e]
   rcases hF.d s V with p | ⟨q,k,m,h3⟩
   ·exact .inl p
   ·refine .inr ⟨q,k,m,?_⟩
    have u:hs' q=(s:Int):=by
     rcases h3 with h3 | ⟨rfl,h3⟩
     ·exact h3
     ·omega
    by_cases A:q=i
    ·subst A
     right;refine ⟨rfl,?_⟩;rcases E with B | ⟨q0,B,Q⟩
     ·have:=(hF.b q hi (fun e=>D e.symm)).1 B
      omega
     ·
      have T:q0<R:=by
       rcases v.l q hi with J | ⟨I,K,L,_⟩
       ·omega
       ·omega
      have P:os q0=(q:Int):=by
       rcases v.l q hi with J | ⟨I,K,L,_,M⟩
       ·omega
       ·have:I=q0:=by omega
        subst this;exact M
      have x3:=(hF.e q0 (G q0 Q)).trans P;rcases hF.d q0 T with e6 | ⟨X,_,h8,o⟩
      ·omega
      ·have:X=q:=by omega
       subst this;rcases o with o | ⟨o,_⟩
       ·omega
       ·exact absurd o.symm D
    ·rw [if_neg A]
     exact .inl u
 ·unfold updI
  rw [if_neg]
  ·exact hF.e s (G s z)
  ·rintro rfl
   rw [y] at z;cases z
 ·obtain ⟨k,m⟩:=hF.f S C
  have F:¬ S r:=by
   intro h;obtain ⟨q,e,g⟩:=C r h;have:q=j:=x37_;subst this;exact k g
  refine ⟨fun N=>F (N r hg),fun s hs'=>?_⟩;unfold updI;rw [if_neg]
  ·exact m s hs'
  ·rintro rfl
   exact F hs'
structure Great (R:Nat) (adj:List (List Int)) (hs os:Nat→Int) (k:Nat):Prop where
 p:Pairs R adj hs os
 rest:∀ i,k≤i→i<adj.length→hs i=-1
 shut:∀ i,i<k→hs i=-1→∃ S,Clo adj os S∧∀ x,Goes adj i x→S x
theorem Yt3 (c:∀ i,hs i=-1) (d:∀ r,os r=-1):Great R adj hs os 0:=⟨⟨fun i _=>.inl (c i),fun r _=>.inl (d r)⟩,fun i _ _=>c i,fun i hi=>by omega⟩
theorem Great.hit (h:Great R adj hs os k) (v:k<adj.length) (hF:Found R adj hs os al k hs' os'):Great R adj hs' os' (k+1):=by
 have x:=h.rest k (le_refl _) v;refine ⟨⟨hF.c,fun r g=>?_⟩,fun i hi o=>?_,fun i hi s=>?_⟩
 ·rcases hF.d r g with e | ⟨j,p,q,h3⟩
  ·exact .inl e
  ·refine .inr ⟨j,p,q,?_⟩
   rcases h3 with h3 | ⟨rfl,h3⟩
   ·exact h3
   ·omega
 ·exact (hF.b i o x37_).1 (h.rest i x37_ o)
 ·have u:i≠k:=by
   rintro rfl;obtain ⟨r,_,e,_⟩:=hF.a;omega
  obtain ⟨S,m,w⟩:=h.shut i x37_ ((hF.b i x37_ u).2 s);refine ⟨S,fun r g=>?_,w⟩;rw [(hF.f S m).2 r g];exact m r g
theorem Great.miss (h:Great R adj hs os k) (ha:∀ r,al r=false) (c:Missed adj os al k al'):Great R adj hs os (k+1) :=
 ⟨h.p,fun i hi hl=>h.rest i x37_ hl,fun i hi d=>by
  by_cases e:i=k
  ·subst e
   exact ⟨fun r=>al' r=true,fun r f=>c.cl r f (ha r),c.all⟩
  ·exact h.shut i x37_ d⟩
structure Reach (adj:List (List Int)) (hs os:Nat→Int) (k:Nat) (al:Nat→Bool):Prop where
 from_:∀ i,i<k→hs i=-1→∀ x,Goes adj i x→al x=true
 cl:∀ r,al r=true→∃ j:Nat,os r=(j:Int)∧∀ x,Goes adj j x→al x=true
def isL (hs:Nat→Int) (al:Nat→Bool) (i:Nat):Bool:=decide (hs i≠-1) && !al (hs i).toNat
def isR (hs:Nat→Int) (al:Nat→Bool) (i:Nat):Bool:=decide (hs i≠-1) && al (hs i).toNat
theorem Xb6 (g:Pairs R adj hs os) (h:Reach adj hs os adj.length al) (m:OnR R adj):Cov adj (isL hs al) fun r=>decide (∃ i,i<adj.length∧isR hs al i=true∧hs i=(r:Int)):=by
 intro i r c;have hi:=goes_lt c;have u:r<R:=by
  obtain ⟨s,e,hs⟩:=m i r c;omega
 have k:al r=true→(decide (∃ i,i<adj.length∧isR hs al i=true∧hs i=(r:Int)))=true:=by
  intro ha;obtain ⟨j,p,_⟩:=h.cl r ha;rcases g.r r u with e | ⟨q,d,f,h3⟩
  ·omega
  ·refine decide_eq_true ⟨q,d,?_,h3⟩
   unfold isR;rw [h3,Int.toNat_natCast,ha];simp
 rcases g.l i hi with e | ⟨s,d,f,h3,v⟩
 ·exact .inr (k (h.from_ i hi e r c))
 ·rcases hs':al s with _ | _
  ·left
   unfold isL;rw [f,Int.toNat_natCast,hs'];simp
  ·obtain ⟨j,p,o⟩:=h.cl s hs'
   have:j=i:=x37_;subst this;exact .inr (k (o r c))
theorem Yt4 (hs:Nat→Int) (al:Nat→Bool) (n:Nat):cntP n (isL hs al)+cntP n (isR hs al)=cntP n fun i=>decide (hs i≠-1):=by
 rw [cntP_split (fun i=>decide (hs i≠-1)) (fun i=>al (hs i).toNat) n];unfold isL isR;omega
end Go.Proofs.YtnaebbjodfnooaaGreatDoor.Wp.K
namespace Go.Proofs.YtnaebbjodfnooaaGreatDoor.Wp.K
theorem Yc3 {R:Nat} {adj:List (List Int)} {hs os:Nat→Int} (h:Great R adj hs os adj.length):∃ al,Reach adj hs os adj.length al:=by
 classical
 refine ⟨fun r=>decide (∃ i,i<adj.length∧hs i=-1∧∃ S,Clo adj os S∧(∀ x,Goes adj i x→S x)∧S r),?_,?_⟩
 ·intro i hi e x f
  obtain ⟨S,c,d⟩:=h.shut i hi e;exact decide_eq_true ⟨i,hi,e,S,c,d,d x f⟩
 ·intro r o
  obtain ⟨i,hi,e,S,c,d,g⟩:=of_decide_eq_true o;obtain ⟨j,m,k⟩:=c r g;exact ⟨j,m,fun x f=>decide_eq_true ⟨i,hi,e,S,c,d,k x f⟩⟩
theorem Xb7 {R:Nat} {adj:List (List Int)} {hs os:Nat→Int} (k:Pairs R adj hs os) (al:Nat→Bool):cntP R (fun r=>decide (∃ i,i<adj.length∧isR hs al i=true∧hs i=(r:Int)))≤cntP adj.length (isR hs al):=by
 have f:∀ r:Nat,decide (∃ i,i<adj.length∧isR hs al i=true∧hs i=(r:Int))=true→∃ i:Nat,i<adj.length∧isR hs al i=true∧hs i=(r:Int)∧os r=(i:Int):=by
  intro r c;obtain ⟨i,hi,d,g⟩:=of_decide_eq_true c;rcases k.l i hi with e | ⟨s,_,e,_,o⟩
  ·omega
  ·have:s=r:=by omega
   subst this;exact ⟨i,hi,d,g,o⟩
 refine cntP_inj (fun r=>(os r).toNat) (fun r _ c=>?_) (fun r q _ _ c m e=>?_)
 ·obtain ⟨i,hi,d,_,o⟩:=f r c
  rw [o,Int.toNat_natCast];exact ⟨hi,d⟩
 ·obtain ⟨i,_,_,g,o⟩:=f r c
  obtain ⟨j,_,_,u,p⟩:=f q m;have h:i=j:=by
   rw [o,p] at e;simpa using e
  subst h;omega
def Big (R:Nat) (adj:List (List Int)) (n:Nat):Prop:=(∃ h,Mat R adj h∧msize adj h=n)∧∃ A B,Cov adj A B∧cntP adj.length A+cntP R B≤n
theorem great_big {R:Nat} {adj:List (List Int)} {hs os:Nat→Int} (h:Great R adj hs os adj.length) (c:OnR R adj):Big R adj (msize adj hs):=by
 obtain ⟨al,d⟩:=Yc3 h;refine ⟨⟨hs,h.p.mat,rfl⟩,_,_,Xb6 h.p d c,?_⟩;have e:=Xb7 h.p al;have f:=Yt4 hs al adj.length;unfold msize;omega
end Go.Proofs.YtnaebbjodfnooaaGreatDoor.Wp.K
namespace Go.Proofs.YtnaebbjodfnooaaGreatDoor.Wp
def pickN (n:Nat) (P:Nat→Bool):List Nat:=(List.range n).filter P
theorem mem_pick {n:Nat} {P:Nat→Bool} {i:Nat}:i∈pickN n P↔i<n∧P i=true:=by simp [pickN]
theorem Yl4 {n:Nat} {P Q:Nat→Bool} (h:∀ i,i<n→P i=Q i):pickN n P=pickN n Q:=List.filter_congr fun i hi=>h i (List.mem_range.1 hi)
theorem Zw1 (n:Nat):pickN n noneP=[]:=List.filter_eq_nil_iff.2 fun _ _=>by simp [noneP]
theorem N6_ {n:Nat} {P:Nat→Bool} {x i:Nat} (c:x<n):i∈pickN n (insP P x)↔i=x∨i∈pickN n P:=by
 rw [mem_pick,mem_pick];by_cases e:i=x
 ·subst e;simp [Y7_,c]
 ·rw [Y5_ e];simp [e]
def edgP (n:Nat) (e:Nat→Nat × Nat) (P:Nat→Bool):List (Nat × Nat):=(pickN n P).map e
def N7_ (A n:Nat) (e:Nat→Nat × Nat) (P:Nat→Bool):Nat:=A - H0_ A (edgP n e P)
theorem Yl5 {n:Nat} {e:Nat→Nat × Nat} {P:Nat→Bool} {g:Nat→Nat}:Cst (edgP n e P) g↔∀ i,i<n→P i=true→g (e i).1=g (e i).2:=by
 unfold Cst edgP;constructor
 ·intro h i hi d
  exact h _ (List.mem_map_of_mem (mem_pick.2 ⟨hi,d⟩))
 ·intro h c hc
  obtain ⟨i,hi,rfl⟩:=List.mem_map.1 hc;exact h i (mem_pick.1 hi).1 (mem_pick.1 hi).2
theorem Xb8 {n:Nat} {e:Nat→Nat × Nat} {P:Nat→Bool} {x:Nat} (k:x<n) (g:Nat→Nat):Cst (edgP n e (insP P x)) g↔Cst (edgP n e P ++ [e x]) g:=by
 rw [cst_append,cst_one,Yl5,Yl5];constructor
 ·intro h
  exact ⟨fun i hi c=>h i hi (by unfold insP;rw [c];simp),h x k (Y7_ P x)⟩
 ·rintro ⟨f,j⟩ i hi c
  by_cases d:i=x
  ·rw [d];exact j
  ·rw [Y5_ d] at c;exact f i hi c
theorem Xs9 {A n:Nat} {e:Nat→Nat × Nat} (d:∀ i,i<n→(e i).1<A∧(e i).2<A):Rk n (N7_ A n e):=by
 refine Rk.of_step (fun P x=>decide (compF (edgP n e P) (e x).1≠compF (edgP n e P) (e x).2)) (fun {P Q} h=>?_) ?_ (fun {P x} hx hp=>?_) (fun {P x y} hx hy hxy hp hq h=>?_)
 ·unfold N7_ edgP;rw [Yl4 h]
 ·unfold N7_ edgP
  rw [Zw1,List.map_nil,Ys4,Nat.sub_self]
 ·have c:H0_ A (edgP n e (insP P x))=H0_ A (edgP n e P ++ [e x]):=Yb3 (Xb8 hx)
  have f:=Za8 A (edgP n e P);unfold N7_;rw [c];by_cases h:compF (edgP n e P) (e x).1=compF (edgP n e P) (e x).2
  ·rw [Xb1 h,if_neg y41_]
   rfl
  ·have:=Ys3 h (d x hx).1 (d x hx).2
   rw [if_pos y41_];omega
 ·rw [decide_eq_true_iff] at h ⊢
  intro hc;apply h;have c:compF (edgP n e (insP P x))=compF (edgP n e P ++ [e x]):=Zu5 (Xb8 hx);rw [c,← Zu7,hc,Zu7]
def sumN (g:Nat→Nat):Nat→Nat
 | 0=>0
 | k+1=>sumN g k+g k
theorem T8_ {g h:Nat→Nat}:∀ {k:Nat},(∀ c,c<k→g c=h c)→sumN g k=sumN h k
 | 0,_=>rfl
 | k+1,e=>by rw [sumN,sumN,T8_ fun c hc=>e c x37_,e k x37_]
theorem Zb5 {g:Nat→Nat}:∀ {k:Nat},(∀ c,c<k→g c=0)→sumN g k=0
 | 0,_=>rfl
 | k+1,e=>by rw [sumN,Zb5 fun c hc=>e c x37_,e k x37_]
theorem Zn1 {g h:Nat→Nat} {b:Nat} {d:Nat}:∀ {k:Nat},b<k→(∀ c,c≠b→g c=h c)→g b=h b+d→sumN g k=sumN h k+d
 | 0,hb,_,_=>by omega
 | k+1,hb,e,eb=>by
  rw [sumN,sumN];by_cases f:b=k
  ·subst f
   rw [T8_ (g:=g) (h:=h) fun c hc=>e c x37_,eb];omega
  ·rw [Zn1 (g:=g) (h:=h) (b:=b) (d:=d) x37_ e eb,e k (fun j=>f j.symm)]
   omega
def clsN (n:Nat) (cls:Nat→Nat) (P:Nat→Bool) (c:Nat):Nat:=cnt (fun i=>P i && cls i==c) n
def partR (A n:Nat) (cls most:Nat→Nat) (P:Nat→Bool):Nat:=sumN (fun c=>min (most c) (clsN n cls P c)) A
theorem S1_ {n:Nat} {cls:Nat→Nat} {P:Nat→Bool} {x c:Nat} (f:x<n) (d:P x=false):clsN n cls (insP P x) c=clsN n cls P c+if cls x=c then 1 else 0:=by
 unfold clsN;by_cases h:cls x=c
 ·rw [if_pos h,← J6_ (P:=fun i=>P i && cls i==c) f (by simp [d])]
  refine V9_ fun i _=>?_;by_cases e:i=x
  ·subst e;simp [Y7_,h]
  ·rw [Y5_ e]
   show _=insP (fun i=>P i && cls i==c) x i;rw [Y5_ e]
 ·rw [if_neg h,Nat.add_zero]
  refine V9_ fun i _=>?_;by_cases e:i=x
  ·rw [e,show (cls x==c)=false from by simpa using h,Bool.and_false,Bool.and_false]
  ·rw [Y5_ e]
theorem Yc4 {A n:Nat} {cls most:Nat→Nat} (hc:∀ i,i<n→cls i<A):Rk n (partR A n cls most):=by
 refine Rk.of_step (fun P x=>decide (clsN n cls P (cls x)<most (cls x))) (fun {P Q} h=>?_) ?_ (fun {P x} hx hp=>?_) (fun {P x y} hx hy hxy hp hq h=>?_)
 ·refine T8_ fun c _=>?_
  unfold clsN;rw [V9_ fun i hi=>by rw [h i hi]]
 ·exact z16_
 ·refine Zn1 (b:=cls x) (hc x hx) (fun c hne=>?_) ?_
  ·exact j23_
  ·show min _ _=min _ _+_
   rw [S1_ hx hp,if_pos rfl];split
   ·rename_i h;rw [decide_eq_true_iff] at h;omega
   ·rename_i h;rw [decide_eq_true_iff] at h;omega
 ·rw [decide_eq_true_iff] at h ⊢
  rw [S1_ hx hp] at h;omega
def vecP (n:Nat) (v:Nat→Nat→Int) (P:Nat→Bool):List (Nat→Int):=(pickN n P).map v
noncomputable def linR (p:Int) (R n:Nat) (v:Nat→Nat→Int) (P:Nat→Bool):Nat:=L.rk p R (vecP n v P)
theorem Yl6 {n:Nat} {v:Nat→Nat→Int} {P:Nat→Bool} {x:Nat} (c:x<n) (u:Nat→Int):u∈vecP n v (insP P x)↔u∈v x :: vecP n v P:=by
 unfold vecP;rw [List.mem_map,List.mem_cons,List.mem_map];constructor
 ·rintro ⟨i,hi,rfl⟩
  rcases (N6_ c).1 hi with rfl | hi
  ·exact .inl rfl
  ·exact .inr ⟨i,hi,rfl⟩
 ·rintro (rfl | ⟨i,hi,rfl⟩)
  ·exact ⟨x,(N6_ c).2 (.inl rfl),rfl⟩
  ·exact ⟨i,(N6_ c).2 (.inr hi),rfl⟩
theorem Vt9 {p:Int} {R n:Nat} (c:L.Fld p) (v:Nat→Nat→Int):Rk n (linR p R n v):=by
 classical
 refine Rk.of_step (fun P x=>decide (¬ L.InSp p R (vecP n v P) (v x))) (fun {P Q} h=>?_) ?_ (fun {P x} hx hp=>?_) (fun {P x y} hx hy hxy hp hq h=>?_)
 ·unfold linR vecP;rw [Yl4 h]
 ·unfold linR vecP;rw [Zw1,List.map_nil,L.rk_nil]
 ·unfold linR
  rw [L.rk_perm c (Yl6 hx)];by_cases h:L.InSp p R (vecP n v P) (v x)
  ·rw [L.rk_cons_in h,if_neg y41_];rfl
  ·rw [L.rk_cons_out h,if_pos y41_]
 ·rw [decide_eq_true_iff] at h ⊢
  exact fun hc=>h (L.sp_mono (fun u d=>(Yl6 hx u).2 (List.mem_cons_of_mem _ d)) hc)
def CovP (n:Nat) (g:Nat→Nat→Prop) (P A B:Nat→Bool):Prop:=∀ i r,i<n→P i=true→g i r→A i=true∨B r=true
def CovC (n R:Nat) (g:Nat→Nat→Prop) (P:Nat→Bool) (k:Nat):Prop:=∃ A B,CovP n g P A B∧cnt A n+cnt B R≤k
theorem Xt0 {p:Nat→Prop}:∀ k,p k→∃ m,p m∧∀ j,p j→m≤j:=by
 intro k
 induction k using Nat.strongRecOn with
 | ind k ih =>
  intro d;by_cases h:∃ j,j<k∧p j
  ·obtain ⟨j,c,e⟩:=h
   exact ih j c e
  ·exact ⟨k,d,fun j c=>Nat.le_of_not_lt fun hl=>h ⟨j,hl,c⟩⟩
theorem Xb9 (n R:Nat) (g:Nat→Nat→Prop) (P:Nat→Bool):∃ m,CovC n R g P m∧∀ j,CovC n R g P j→m≤j :=
 Xt0 (cnt allP n+cnt noneP R) ⟨allP,noneP,fun _ _ _ _ _=>.inl rfl,le_refl _⟩
noncomputable def covR (n R:Nat) (g:Nat→Nat→Prop) (P:Nat→Bool):Nat:=Classical.choose (Xb9 n R g P)
theorem I0_ (n R:Nat) (g:Nat→Nat→Prop) (P:Nat→Bool):CovC n R g P (covR n R g P):=(Classical.choose_spec (Xb9 n R g P)).1
theorem L6_ {n R:Nat} {g:Nat→Nat→Prop} {P:Nat→Bool} {k:Nat} (h:CovC n R g P k):covR n R g P≤k:=(Classical.choose_spec (Xb9 n R g P)).2 k h
def b01 (b:Bool):Nat:=if b=true then 1 else 0
theorem Yc5 {p q r s:Nat→Bool}:∀ {n:Nat},(∀ i,i<n→b01 (p i)+b01 (q i)≤b01 (r i)+b01 (s i))→cnt p n+cnt q n≤cnt r n+cnt s n
 | 0,_=>by simp [cnt]
 | n+1,h=>by
  have d:=Yc5 (p:=p) (q:=q) (r:=r) (s:=s) (n:=n) fun i hi=>h i x37_;have c:=h n x37_;unfold b01 at c;rw [X6_,X6_,X6_,X6_];omega
theorem Zw2 (n R:Nat) (g:Nat→Nat→Prop):Rk n (covR n R g):=by
 refine ⟨fun {P Q} h=>?_,?_,fun {P x} hx c=>?_,fun {P x} hx c=>?_,fun {P x y} hx hy hxy c hq=>?_⟩
 ·have z:∀ {P Q:Nat→Bool},(∀ i,i<n→P i=Q i)→covR n R g P≤covR n R g Q:=fun {P Q} h=>by
   obtain ⟨A,B,hc,v⟩:=I0_ n R g Q;exact L6_ ⟨A,B,fun i r hi c=>hc i r hi (by rw [← h i hi];exact c),v⟩
  exact Nat.le_antisymm (z h) (z fun i hi=>(h i hi).symm)
 ·have F:CovP n g noneP noneP noneP:=fun _ _ _ c=>absurd c (by simp [noneP])
  have:=L6_ (n:=n) (R:=R) (g:=g) (P:=noneP) (k:=0) ⟨noneP,noneP,F,by rw [B5_,B5_];exact le_refl _⟩;omega
 ·obtain ⟨A,B,hc,v⟩:=I0_ n R g (insP P x)
  exact L6_ ⟨A,B,fun i r hi c=>hc i r hi (by unfold insP;rw [c];simp),v⟩
 ·obtain ⟨A,B,hc,v⟩:=I0_ n R g P
  refine L6_ ⟨insP A x,B,fun i r hi c o=>?_,?_⟩
  ·by_cases e:i=x
   ·rw [e,Y7_];exact .inl rfl
   ·rw [Y5_ e] at c ⊢;exact hc i r hi c o
  ·have:=(H3_ n).one' A hx
   omega
 ·obtain ⟨p,B1,j,N⟩:=I0_ n R g (insP P x)
  obtain ⟨q,B2,m,O⟩:=I0_ n R g (insP P y);have M:∀ i,insP (insP P x) y i=(i==y || (i==x || P i)):=fun i=>rfl;let d:Nat→Bool:=fun i=>insP P x i && !p i;let f:Nat→Bool:=fun i=>insP P y i && !q i;have c1:CovC n R g (insP (insP P x) y) (cnt (fun i=>insP (insP P x) y i && !(d i || f i)) n+cnt (orP B1 B2) R):=by
   refine ⟨_,_,fun i r hi c o=>?_,le_refl _⟩;rw [c,Bool.true_and];cases t1:d i
   ·cases t2:f i
    ·exact .inl rfl
    ·right
     simp only [f,Bool.and_eq_true,Bool.not_eq_true'] at t2;have:=(m i r hi t2.1 o).resolve_left (by rw [t2.2];decide);unfold orP;rw [this];simp
   ·right
    simp only [d,Bool.and_eq_true,Bool.not_eq_true'] at t1;have:=(j i r hi t1.1 o).resolve_left (by rw [t1.2];decide);unfold orP;rw [this];simp
  have c2:CovC n R g P (cnt (fun i=>P i && !(d i && f i)) n+cnt (andP B1 B2) R):=by
   refine ⟨_,_,fun i r hi c o=>?_,le_refl _⟩;rw [c,Bool.true_and];cases t1:d i
   ·exact .inl rfl
   ·cases t2:f i
    ·exact .inl rfl
    ·right
     simp only [d,Bool.and_eq_true,Bool.not_eq_true'] at t1;simp only [f,Bool.and_eq_true,Bool.not_eq_true'] at t2;have C:=(j i r hi t1.1 o).resolve_left (by rw [t1.2];decide);have D:=(m i r hi t2.1 o).resolve_left (by rw [t2.2];decide);unfold andP;rw [C,D];rfl
  have I:=L6_ c1;have J:=L6_ c2;have K:cnt (fun i=>insP (insP P x) y i && !(d i || f i)) n+cnt (fun i=>P i && !(d i && f i)) n≤cnt p n+cnt q n:=Yc5 fun i _=>by
   simp only [d,f,insP,b01];by_cases u:i=x
   ·have s:(i==y)=false:=by rw [u];simpa using hxy
    have G:P i=false:=by rw [u];exact c
    simp only [s,G,show (i==x)=true from by simpa using u];cases p i<;>cases q i<;>simp
   ·have w:(i==x)=false:=by simpa using u
    by_cases s:i=y
    ·have H:P i=false:=by rw [s];exact hq
     simp only [w,H,show (i==y)=true from by simpa using s];cases p i<;>cases q i<;>simp
    ·have E:(i==y)=false:=by simpa using s
     simp only [w,E];cases P i<;>cases p i<;>cases q i<;>simp
  have L:cnt (orP B1 B2) R+cnt (andP B1 B2) R≤cnt B1 R+cnt B2 R:=Yc5 fun i _=>by
   simp only [orP,andP,b01];have j:B1 i=true∨B1 i=false:=by cases B1 i<;>simp
   have m:B2 i=true∨B2 i=false:=by cases B2 i<;>simp
   rcases j with j | j<;>rcases m with m | m<;>simp [j,m]
  omega
end Go.Proofs.YtnaebbjodfnooaaGreatDoor.Wp
