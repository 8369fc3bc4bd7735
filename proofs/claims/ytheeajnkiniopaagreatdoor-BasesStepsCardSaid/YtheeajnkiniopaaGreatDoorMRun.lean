/- Strong witnesses below 2 to the 31: the kernel's reckoning, of primes below 1000. Nothing of the program here. -/
import Derived.Test.YtheeajnkiniopaaGreatDoorMComp
import Derived.Test.YtheeajnkiniopaaGreatDoorX0A
namespace Go.Proofs.YtheeajnkiniopaaGreatDoor.Wp
set_option maxRecDepth 100000
theorem Vc1:∀ c∈low,okP c=true:=q31_
def lowIn (d:Nat):Bool:=cond (Nat.ble 11 d) (cond (Nat.blt d 1000) (cond (Zd1 d) true (low.any fun pl=>Nat.beq pl.1 d)) true) true
theorem Xt5:rng lowIn 10 0=true:=q31_
theorem Xt6:low.length=164:=q31_
theorem top0:rng (topAt low) 5 0=true:=q31_
theorem top1:rng (topAt low) 5 32=true:=q31_
theorem top2:rng (topAt low) 5 64=true:=q31_
theorem top3:rng (topAt low) 5 96=true:=q31_
theorem top4:rng (topAt low) 5 128=true:=q31_
theorem top5:rng (topAt low) 5 160=true:=q31_
set_option maxRecDepth 100000
theorem q0a:rng chkq 10 0=true:=q31_
theorem q0b:rng chkq 10 1024=true:=q31_
theorem q0c:rng chkq 10 2048=true:=q31_
theorem q0d:rng chkq 10 3072=true:=q31_
theorem q0:rng chkq 12 0=true:=X4_ (X4_ q0a q0b rfl) (X4_ q0c q0d rfl) rfl
set_option maxRecDepth 100000
theorem q1:rng chkq 12 4096=true:=q31_
theorem q2:rng chkq 12 8192=true:=q31_
theorem q3:rng chkq 12 12288=true:=q31_
theorem q4:rng chkq 12 16384=true:=q31_
theorem q5:rng chkq 12 20480=true:=q31_
theorem q6:rng chkq 12 24576=true:=q31_
theorem q7:rng chkq 12 28672=true:=q31_
theorem q8:rng chkq 12 32768=true:=q31_
theorem q9:rng chkq 12 36864=true:=q31_
theorem q10:rng chkq 12 40960=true:=q31_
theorem q11:rng chkq 12 45056=true:=q31_
theorem q12:rng chkq 12 49152=true:=q31_
theorem q13:rng chkq 12 53248=true:=q31_
theorem q14:rng chkq 12 57344=true:=q31_
theorem q15:rng chkq 12 61440=true:=q31_
set_option maxRecDepth 100000
theorem Vc2:∀ q∈far,chkL q (findL q)=true:=q31_
theorem m0:rng (chkm great) 12 0=true:=q31_
theorem m1:rng (chkm great) 12 4096=true:=q31_
theorem m2:rng (chkm great) 12 8192=true:=q31_
theorem m3:rng (chkm great) 12 12288=true:=q31_
theorem m4:rng (chkm great) 12 16384=true:=q31_
theorem m5:rng (chkm great) 12 20480=true:=q31_
theorem m6:rng (chkm great) 12 24576=true:=q31_
theorem m7:rng (chkm great) 12 28672=true:=q31_
set_option maxRecDepth 100000
theorem Xd0 {m:Nat} (h:m<32768):chkm great m=true :=
 Q2_ (X4_ (X4_ (X4_ m0 m1 rfl) (X4_ m2 m3 rfl) rfl) (X4_ (X4_ m4 m5 rfl) (X4_ m6 m7 rfl) rfl) rfl) m (Nat.zero_le _) k34_
theorem Xd1 {q:Nat} (h:q<65536):chkq q=true :=
 Q2_ (X4_ (X4_ (X4_ (X4_ q0 q1 rfl) (X4_ q2 q3 rfl) rfl) (X4_ (X4_ q4 q5 rfl) (X4_ q6 q7 rfl) rfl) rfl) (X4_ (X4_ (X4_ q8 q9 rfl) (X4_ q10 q11 rfl) rfl) (X4_ (X4_ q12 q13 rfl) (X4_ q14 q15 rfl) rfl) rfl) rfl) q (Nat.zero_le _) k34_
theorem Xt7:top low=true:=Xp8 fun i c=>by
 rw [Xt6] at c;by_cases d:i<32
 ·exact Q2_ top0 i k29_ k29_
 by_cases e:i<64
 ·exact Q2_ top1 i k29_ k29_
 by_cases h2:i<96
 ·exact Q2_ top2 i k29_ k29_
 by_cases h3:i<128
 ·exact Q2_ top3 i k29_ k29_
 by_cases f:i<160
 ·exact Q2_ top4 i k29_ k29_
 ·exact Q2_ top5 i k29_ k29_
theorem Xt8 {x:Nat} (f:Pr x) (c:11≤x) (h2:x<1000):∃ l,(x,l)∈low:=by
 have h:=Q2_ Xt5 x (Nat.zero_le _) k29_;unfold lowIn at h;rw [show Nat.ble 11 x=true from Nat.ble_eq_true_of_le c,cond_true,show Nat.blt x 1000=true from Nat.ble_eq_true_of_le h2,cond_true] at h;rcases h3:Zd1 x with _ | _
 ·rw [h3,cond_false] at h
  obtain ⟨⟨p,l⟩,e,d⟩:=List.any_eq_true.1 h;obtain rfl:p=x:=Nat.eq_of_beq_eq_true d;exact ⟨l,e⟩
 ·exact absurd f (Zd2 h3)
theorem ge_11 {x:Nat} (d:Pr x) (c:Nat.gcd x 210=1):11≤x:=by
 have h2:=d.1;rcases Nat.lt_or_ge x 11 with h | h
 ·have:x=2∨x=3∨x=4∨x=5∨x=6∨x=7∨x=8∨x=9∨x=10:=by omega
  rcases this with rfl | rfl | rfl | rfl | rfl | rfl | rfl | rfl | rfl<;>revert c<;>decide
 ·exact h
theorem psi {n:Nat} (d:Passes n) (k:Nat.gcd n 210=1):Pr n:=by
 apply Classical.byContradiction;intro hc;have C:=d.two;have u:=d.lt;have j:∀ {x:Nat},Pr x→x ∣ n→¬ Alone x:=by
  intro x c hd ha;have h:=ha n u hd (by rintro rfl;exact hc c) k29_ d.sq;rw [d.tst] at h;cases h
 refine Yj0 d hc Xt7 Vc1 fun x c hd=>?_;have g:=Zs4 k hd;have z:=c.1;by_cases r:x<1000
 ·exact Xt8 c (ge_11 c g) r
 ·exfalso
  by_cases h2:x<65536
  ·exact j c hd (Ye4 c k29_ (Xd1 h2))
  ·have D:x≠65536:=by
    rintro rfl;have:=c.2 2 x30_;omega
   obtain ⟨m,f⟩:=hd;have p:1≤m:=by
    rcases Nat.eq_zero_or_pos m with e | e
    ·subst e;omega
    ·exact e
   have B:m≠1:=by
    rintro rfl;rw [Nat.mul_one] at f;exact hc (f▸c)
   have o:Nat.gcd m 210=1:=Zs4 k ⟨x,by rw [f,Nat.mul_comm]⟩;have v:11≤m:=by
    obtain ⟨y,A,q⟩:=Zi9 (n:=m) k29_;have:=ge_11 A (Zs4 o q);have:=Nat.le_of_dvd p q;omega
   have w:m<32768:=by
    rcases Nat.lt_or_ge m 32768 with h | h
    ·exact h
    ·have:=Nat.mul_le_mul (show 65537≤x by omega) h
     omega
   have hs:SQ x (m - 1):=by
    refine SQ.cofactor c g p ?_;rw [← f];exact d.sq
   have s:=Yo3 c k29_ (Xc8 z v o hs (Xd0 w));exact j c ⟨m,f⟩ (Yv8 c g (Vc2 x s))
end Go.Proofs.YtheeajnkiniopaaGreatDoor.Wp
