/- Numbers modulo a number, plain: primes, Fermat's little theorem, square roots of 1, the exponents that leave 1. Nothing of the program here. -/
import Derived.Lib.Hide
import Derived.Test.YtigobiacbficaaaGreatDoorX0A
namespace Go.Proofs.YtigobiacbficaaaGreatDoor.Wp
def Pr (p:Nat):Prop:=2≤p∧∀ d,d ∣ p→d=1∨d=p
theorem Pr.cop {p a:Nat} (h:Pr p) (ha:¬ p ∣ a):Nat.Coprime p a:=by
 rcases h.2 _ (Nat.gcd_dvd_left p a) with e | e
 ·exact e
 ·exact absurd (by have:=Nat.gcd_dvd_right p a;rwa [e] at this) ha
theorem Pr.mul {p a b:Nat} (h:Pr p) (hd:p ∣ a * b):p ∣ a∨p ∣ b:=by
 by_cases ha:p ∣ a
 ·exact .inl ha
 ·exact .inr ((h.cop ha).dvd_of_dvd_mul_left hd)
theorem Yz2:∀ (b n:Nat),n≤b→2≤n→∃ p,Pr p∧p ∣ n
 | 0,n,hb,hn=>by omega
 | b+1,n,hb,hn=>by
  by_cases h:∃ d,d ∣ n∧d≠1∧d≠n
  ·obtain ⟨d,hd,c,h2⟩:=h
   have j:=Nat.le_of_dvd y40_ hd;have g:d≠0:=by rintro rfl;have:=Nat.eq_zero_of_zero_dvd hd;omega
   obtain ⟨p,e,f⟩:=Yz2 b d y40_ y40_;exact ⟨p,e,Nat.dvd_trans f hd⟩
  ·refine ⟨n,⟨hn,fun d hd=>?_⟩,Nat.dvd_refl n⟩
   by_cases c:d=1
   ·exact .inl c
   ·by_cases h2:d=n
    ·exact .inr h2
    ·exact absurd ⟨d,hd,c,h2⟩ h
theorem Yz3 {n:Nat} (c:2≤n):∃ p,Pr p∧p ∣ n:=Yz2 n n (Nat.le_refl _) c
theorem Pr.of_dvd {p q:Nat} (c:Pr p) (d:Pr q) (h:p ∣ q):p=q:=by
 rcases d.2 p h with e | e
 ·have:=c.1;omega
 ·exact e
theorem Zv5 {n a b c d:Nat} (e:a % n=b % n) (h2:c % n=d % n):a * c % n=b * d % n:=by
 rw [Nat.mul_mod,e,h2,← Nat.mul_mod]
theorem N3_ {n a b k:Nat} (h:a % n=b % n):a ^ k % n=b ^ k % n:=by
 rw [Nat.pow_mod,h,← Nat.pow_mod]
theorem G6_ (a n:Nat):a % n % n=a % n:=Nat.mod_mod _ _
theorem Yn1 {n a b:Nat} (h:a % n=b % n) (_:b≤a):n ∣ a - b :=
 Nat.dvd_of_mod_eq_zero (Nat.sub_mod_eq_zero_of_mod_eq h)
theorem Yz4 {n a b:Nat} (h:n ∣ a - b) (d:b≤a):a % n=b % n:=by
 obtain ⟨c,hc⟩:=h;have:a=b+n * c:=y40_;rw [this,Nat.add_mul_mod_self_left]
theorem cm_le {n m a b:Nat} (h:a % n=b % n) (hd:m ∣ n):a % m=b % m:=by
 rw [← Nat.mod_mod_of_dvd a hd,h,Nat.mod_mod_of_dvd _ hd]
theorem Zk3 {n a b c:Nat} (hc:Nat.Coprime n c) (h:a * c % n=b * c % n):a % n=b % n:=by
 have f:∀ {a b:Nat},b≤a→a * c % n=b * c % n→a % n=b % n:=by
  intro a b d h;have e:=Yn1 h (Nat.mul_le_mul_right c d);rw [← Nat.sub_mul] at e;exact Yz4 (hc.dvd_of_dvd_mul_right e) d
 rcases Nat.le_total b a with d | d
 ·exact f d h
 ·exact (f d h.symm).symm
theorem Pr.cancel {p a b c:Nat} (d:Pr p) (hc:¬ p ∣ c) (h:a * c % p=b * c % p):a % p=b % p :=
 Zk3 (d.cop hc) h
def prodL:List Nat→Nat
 | []=>1
 | x :: r=>x * prodL r
theorem Yw5 {l c:List Nat} (h:l.Perm c):prodL l=prodL c:=by
 induction h with
 | nil=>rfl
 | cons x _ ih=>simp [prodL,ih]
 | swap x y l=>simp [prodL];rw [← Nat.mul_assoc,← Nat.mul_assoc,Nat.mul_comm y x]
 | trans _ _ h1 h2=>rw [h1,h2]
theorem Zv6 (a n:Nat):∀ l:List Nat,prodL (l.map fun i=>a * i % n) % n=a ^ l.length * prodL l % n
 | []=>by simp [prodL]
 | x :: r=>by
  simp only [List.map_cons,prodL,List.length_cons];rw [Zv5 (G6_ (a * x) n) (Zv6 a n r),Nat.pow_succ];congr 1;rw [Nat.mul_assoc,Nat.mul_left_comm x,← Nat.mul_assoc,Nat.mul_comm a,Nat.mul_assoc]
theorem Pr.not_prod {p:Nat} (h:Pr p):∀ {l:List Nat},(∀ x∈l,¬ p ∣ x)→¬ p ∣ prodL l
 | [],_,hd=>by
  have:=Nat.le_of_dvd (by simp [prodL]) hd;have:=h.1;simp [prodL] at *
  omega
 | x :: r,hl,hd=>by
  rcases h.mul hd with c | c
  ·exact hl x k40_ c
  ·exact h.not_prod (fun y hy=>hl y y45_) c
theorem Pr.in_prod {p:Nat} (h:Pr p) {l:List Nat} (hd:p ∣ prodL l):∃ x∈l,p ∣ x:=by
 apply Classical.byContradiction;intro c;exact h.not_prod (fun x e d=>c ⟨x,e,d⟩) hd
theorem Yd5 {l c:List Nat} (d:l.Nodup) (h2:c.Nodup) (hs:∀ x∈l,x∈c) (hl:l.length=c.length):l.Perm c:=by
 rw [List.perm_ext_iff_of_nodup d h2];refine fun x=>⟨hs x,fun f=>?_⟩;apply Classical.byContradiction;intro h;have j:l ⊆ c.erase x:=fun y g=>by
  have k:y≠x:=fun e=>h (e▸g);exact (List.mem_erase_of_ne k).2 (hs y g)
 have:=d.length_le_of_subset j;rw [List.length_erase] at this;simp [f] at this;have:=List.length_pos_of_mem f;omega
theorem fermat {p a:Nat} (d:Pr p) (ha:¬ p ∣ a):a ^ (p - 1) % p=1:=by
 have h2:=d.1;have j:(List.range' 1 (p - 1)).Nodup:=List.nodup_range';have c:∀ x,x∈List.range' 1 (p - 1)↔1≤x∧x<p:=by
  intro x;rw [List.mem_range'_1];omega
 have m:∀ x,1≤x→x<p→¬ p ∣ x:=fun x g h2 hd=>by have:=Nat.le_of_dvd y40_ hd;omega
 have s:((List.range' 1 (p - 1)).map fun i=>a * i % p).Perm (List.range' 1 (p - 1)):=by
  refine Yd5 ?_ j ?_ k40_
  ·rw [List.nodup_iff_pairwise_ne,List.pairwise_map]
   rw [List.nodup_iff_pairwise_ne] at j;refine List.Pairwise.imp_of_mem ?_ j;intro x y f v r e;have u:=(c x).1 f;have w:=(c y).1 v;have:=d.cancel ha (a:=x) (b:=y) (by rw [Nat.mul_comm x,Nat.mul_comm y];exact e);rw [Nat.mod_eq_of_lt u.2,Nat.mod_eq_of_lt w.2] at this;exact r this
  ·intro x f
   obtain ⟨i,q,rfl⟩:=List.mem_map.1 f;have k:=(c i).1 q;rw [c];refine ⟨?_,Nat.mod_lt _ y40_⟩;have:a * i % p≠0:=by
    intro e;rcases d.mul (Nat.dvd_of_mod_eq_zero e) with h | h
    ·exact ha h
    ·exact m i k.1 k.2 h
   omega
 have g:=Zv6 a p (List.range' 1 (p - 1));rw [Yw5 s,List.length_range'] at g;have o:¬ p ∣ prodL (List.range' 1 (p - 1)):=d.not_prod fun x f=>by
  have:=(c x).1 f;exact m x this.1 this.2
 have h3:=d.cancel o (a:=1) (b:=a ^ (p - 1)) (by rw [Nat.one_mul];exact g);rw [← h3];exact k25_
theorem Xu5 {p r:Nat} (d:Pr p) (j:r<p) (h:r * r % p=1):r=1∨r=p - 1:=by
 have h2:=d.1;have f:1≤r:=by
  rcases Nat.eq_zero_or_pos r with e | e
  ·subst e;simp at h
  ·exact e
 have hd:p ∣ r * r - 1:=Yn1 x46_ (Nat.mul_pos f f);have g:r * r - 1=(r - 1) * (r+1):=by
  obtain ⟨s,rfl⟩:∃ s,r=s+1:=⟨r - 1,y40_⟩;have:(s+1) * (s+1)=s * (s+1+1)+1:=by
   simp only [Nat.mul_add,Nat.add_mul];omega
  rw [this];simp
 rw [g] at hd;rcases d.mul hd with c | c
 ·rcases Nat.eq_zero_or_pos (r - 1) with e | e
  ·left;omega
  ·have:=Nat.le_of_dvd e c
   omega
 ·have:=Nat.le_of_dvd y40_ c
  right;omega
theorem Yd6 {a q e:Nat} (c:2≤q) (h:a ^ e % q=1) (k:Nat):a ^ (e * k) % q=1:=by
 rw [Nat.pow_mul,N3_ (b:=1) x46_,Nat.one_pow];exact k25_
theorem Zb3 {a q e f:Nat} (c:2≤q) (h:a ^ e % q=1) (hd:e ∣ f):a ^ f % q=1:=by
 obtain ⟨k,rfl⟩:=hd;exact Yd6 c h k
theorem Vk3 {a q m n:Nat} (g:2≤q) (d:a ^ m % q=1) (f:a ^ n % q=1):a ^ (n % m) % q=1:=by
 have e:n=m * (n / m)+n % m:=(Nat.div_add_mod n m).symm;have c:a ^ n % q=1 * a ^ (n % m) % q:=by
  have:a ^ n=a ^ (m * (n / m)) * a ^ (n % m):=by rw [← Nat.pow_add,← e]
  rw [this];exact Zv5 (by rw [Yd6 g d];exact (Nat.mod_eq_of_lt y40_).symm) rfl
 rw [Nat.one_mul] at c;rw [← c,f]
theorem Zb4 {a q:Nat} (d:2≤q) (m n:Nat):a ^ m % q=1→a ^ n % q=1→a ^ (Nat.gcd m n) % q=1:=by
 induction m,n using Nat.gcd.induction with
 | H0 n=>intro _ h;rw [Nat.gcd_zero_left];exact h
 | H1 m n hm ih =>
  intro c h2;rw [Nat.gcd_rec];exact ih (Vk3 d c h2) c
structure SQ (q e:Nat):Prop where
 two:2 ^ e % q=1
 three:3 ^ e % q=1
 five:5 ^ e % q=1
 seven:7 ^ e % q=1
theorem SQ.gcd {q m n:Nat} (d:2≤q) (c:SQ q m) (h2:SQ q n):SQ q (Nat.gcd m n) :=
 ⟨Zb4 d m n c.two h2.two,Zb4 d m n c.three h2.three,Zb4 d m n c.five h2.five,Zb4 d m n c.seven h2.seven⟩
theorem SQ.dvd {q e f:Nat} (c:2≤q) (h:SQ q e) (hd:e ∣ f):SQ q f :=
 ⟨Zb3 c h.two hd,Zb3 c h.three hd,Zb3 c h.five hd,Zb3 c h.seven hd⟩
theorem SQ.low {n q e:Nat} (f:2≤q) (h:SQ n e) (hd:q ∣ n):SQ q e:=by
 have c:∀ {a:Nat},a ^ e % n=1→a ^ e % q=1:=by
  intro a ha;have d:n≠1:=by rintro rfl;rw [Nat.mod_one] at ha;omega
  have:=cm_le (n:=n) (m:=q) (a:=a ^ e) (b:=1) (by rw [ha];rcases Nat.lt_or_ge 1 n with h | h;exact (Nat.mod_eq_of_lt h).symm;(have:n=0:=by omega);subst this;rfl) hd;rw [this];exact k25_
 exact ⟨c h.two,c h.three,c h.five,c h.seven⟩
theorem Yd7 {q:Nat} (h:Nat.gcd q 210=1) (d:2≤q):¬ q ∣ 2∧¬ q ∣ 3∧¬ q ∣ 5∧¬ q ∣ 7:=by
 have c:∀ a,a ∣ 210→¬ q ∣ a:=fun a ha hd=>by
  have:=Nat.dvd_gcd (Nat.dvd_refl q) (Nat.dvd_trans hd ha);rw [h] at this;have:=Nat.le_of_dvd y40_ this;omega
 exact ⟨c 2 q41_,c 3 q41_,c 5 q41_,c 7 q41_⟩
theorem SQ.fermat {q:Nat} (c:Pr q) (h:Nat.gcd q 210=1):SQ q (q - 1):=by
 obtain ⟨h2,h3,d,e⟩:=Yd7 h c.1;exact ⟨Wp.fermat c h2,Wp.fermat c h3,Wp.fermat c d,Wp.fermat c e⟩
theorem Yd8 {n q k:Nat} (h:Nat.gcd n k=1) (hd:q ∣ n):Nat.gcd q k=1:=by
 have:=Nat.dvd_gcd (Nat.dvd_trans (Nat.gcd_dvd_left q k) hd) (Nat.gcd_dvd_right q k);rw [h] at this;exact Nat.dvd_one.1 this
theorem SQ.cofactor {q m:Nat} (k:Pr q) (o:Nat.gcd q 210=1) (p:1≤m) (h:SQ (q * m) (q * m - 1)):SQ q (m - 1):=by
 have h2:=k.1;have c:=h.low h2 (Nat.dvd_mul_right q m);have f:=SQ.fermat k o;have e:q * m - 1=(q - 1) * m+(m - 1):=by
  have:q * m=(q - 1) * m+m:=by
   rw [← Nat.succ_mul];congr 1;omega
  omega
 have g:∀ {a:Nat},a ^ (q - 1) % q=1→a ^ (q * m - 1) % q=1→a ^ (m - 1) % q=1:=by
  intro a c j;rw [e,Nat.pow_add] at j;rw [Zv5 (b:=1) (d:=a ^ (m - 1)) (by rw [Yd6 h2 c];exact (Nat.mod_eq_of_lt y40_).symm) rfl,Nat.one_mul] at j;exact j
 exact ⟨g f.two c.two,g f.three c.three,g f.five c.five,g f.seven c.seven⟩
theorem Zb5 (x:Nat):∀ n,∃ c,(1+x) ^ n=1+n * x+c * (x * x)
 | 0=>⟨0,k40_⟩
 | n+1=>by
  obtain ⟨c,hc⟩:=Zb5 x n;refine ⟨c+n+c * x,?_⟩;rw [Nat.pow_succ,hc];simp only [Nat.add_mul,Nat.mul_add,Nat.one_mul,Nat.mul_one,Nat.mul_assoc];omega
theorem wief {p n:Nat} (d:Pr p) (h2:¬ p ∣ 2) (hd:p * p ∣ n) (w:2≤n) (h:2 ^ (n - 1) % n=1):2 ^ (p - 1) % (p * p)=1:=by
 have g:=d.1;have j:2≤p * p:=by
  have:=Nat.mul_le_mul g g;omega
 have f:1 % (p * p)=1:=Nat.mod_eq_of_lt y40_;have o:2 ^ (n - 1) % (p * p)=1:=by
  have:=cm_le (n:=n) (m:=p * p) (a:=2 ^ (n - 1)) (b:=1) x46_ hd;rw [this,f]
 have q:=fermat d h2;have h3:2 ^ ((p - 1) * p) % (p * p)=1:=by
  have u:1≤2 ^ (p - 1):=Nat.one_le_two_pow;obtain ⟨k,v⟩:=Yn1 (n:=p) (a:=2 ^ (p - 1)) (b:=1) (by rw [q];exact (Nat.mod_eq_of_lt y40_).symm) u;have e:2 ^ (p - 1)=1+p * k:=y40_;rw [Nat.pow_mul,e];obtain ⟨c,hc⟩:=Zb5 (p * k) p;rw [hc];have:1+p * (p * k)+c * (p * k * (p * k))=1+p * p * (k+c * (k * k)):=by
   rw [Nat.add_assoc,Nat.mul_add (p * p)];congr 2
   ·rw [Nat.mul_assoc]
   ·simp only [Nat.mul_left_comm,Nat.mul_comm]
  rw [this,Nat.add_mul_mod_self_left,f]
 have hc:Nat.Coprime (n - 1) p:=by
  have s:p ∣ n:=Nat.dvd_trans (Nat.dvd_mul_right p p) hd;have:¬ p ∣ n - 1:=fun h=>by
   have:=Nat.dvd_sub s h;rw [show n - (n - 1)=1 by omega] at this;have:=Nat.le_of_dvd y40_ this;omega
  exact (d.cop this).symm
 have r:=Zb4 j (n - 1) ((p - 1) * p) o h3;refine Zb3 j r ?_;refine Nat.Coprime.dvd_of_dvd_mul_right (n:=p) (m:=p - 1) ?_ (Nat.gcd_dvd_right _ _);exact Nat.Coprime.coprime_dvd_left (Nat.gcd_dvd_left _ _) hc
end Go.Proofs.YtigobiacbficaaaGreatDoor.Wp
