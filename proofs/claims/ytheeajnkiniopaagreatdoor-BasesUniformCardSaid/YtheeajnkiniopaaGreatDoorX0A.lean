/- Closing steps that stand often, by their scripts (plain). -/
import Derived.Lib.Hide
namespace Go.Proofs.YtheeajnkiniopaaGreatDoor.Wp
variable {P:Prop}
theorem mz_ (h:P:=by simp [intOf];omega):P:=h
theorem x3_ (h:P:=by
 obtain ⟨_,_,hat⟩:=World.cells?_some h1
 have g0:=hat 0 (by decide)
 have g1:=hat 1 (by decide)
 have g2:=hat 2 (by decide)
 have g3:=hat 3 (by decide)
 have g4:=hat 4 (by decide)
 have g5:=hat 5 (by decide)
 rw [add_zero] at g0
 refine ⟨(.agg #[z0,z1,z2,z3,z4,z5],mm),⟨z0,z1,z2,z3,z4,z5,rfl,by simpa using g0,?_,?_,?_,?_,?_⟩,hm1,hm2⟩
 ·simpa [Addr.add] using g1
 ·simpa [Addr.add] using g2
 ·simpa [Addr.add] using g3
 ·simpa [Addr.add] using g4
 ·simpa [Addr.add] using g5):P:=h
theorem j4_ (h:P:=by
 rw [Bool.and_eq_false_iff]
 right
 rw [Bool.eq_false_iff]
 intro e
 have:=List.all_eq_true.1 e adj[i] (List.getElem_mem hi)
 rw [show adj.getD i []=adj[i] by simp [List.getD,hi]] at h
 rw [this] at h
 cases h):P:=h
theorem j5_ (h:P:=by
 have:=hb1.size
 show _<_
 simp at this
 omega):P:=h
theorem z6_ (h:P:=by
 unfold mayM
 rw [Bool.and_eq_true,Bool.and_eq_true,decide_eq_true_iff,decide_eq_true_iff,List.all_eq_true]
 refine ⟨⟨by omega,by omega⟩,fun l hl=>?_⟩
 obtain ⟨i,hi,rfl⟩:=List.mem_iff_getElem.1 hl
 have:=h i hi
 rwa [show adj.getD i []=adj[i] by simp [List.getD,hi]] at this):P:=h
theorem k6_ (h:P:=by
 have h1:=hcap.1
 have h2:=hcap.2.1
 unfold maxLen at h2
 omega):P:=h
theorem j7_ (h:P:=by
 by_cases e:j=i
 ·rw [e];exact hb
 ·exact Hok.out j (by omega)):P:=h
theorem k7_ (h:P:=by
 rw [List.any_eq_false]
 intro c hc
 obtain ⟨i,hi,rfl⟩:=List.mem_iff_getElem.1 hc
 have:=h i hi
 simpa [List.getD,hi] using this):P:=h
theorem q8_ (h:P:=by
 constructor
 ·exact fun e2=>.inl ⟨j,hj,rfl,e2.2⟩
 ·rintro (⟨j',h2,h3,h4⟩ | ⟨h2,_⟩)
  ·have:=hw.inj _ _ (by omega) (by omega) h3
   subst this
   exact ⟨hi,h4⟩
  ·exact absurd rfl (h2 j (by omega))):P:=h
theorem x8_ (h:P:=by
 obtain ⟨e1,e2⟩:=h2 i (by omega)
 have a:=e2 0 (by omega)
 have b:=e2 1 (by omega)
 unfold edgOf
 constructor
 ·show ((m.l.getD i []).getD 0 0).toNat<m.a.toNat;omega
 ·show ((m.l.getD i []).getD 1 0).toNat<m.a.toNat;omega):P:=h
theorem k8_ (h:P:=by
 unfold exU
 rw [List.map_map]
 refine List.pairwise_map.2 ((S7_ (k:Int)).imp_of_mem fun {x y} hx hy hlt e=>?_)
 have h1:=mem_steps.1 hx
 have h2:=mem_steps.1 hy
 have:=hw.inj _ _ (by omega) (by omega) e
 omega):P:=h
theorem q9_ (h:P:=by
 simp [form,Mat.t,Mat.n,Mat.a,Mat.b,Mat.l,Mat.i]
 grind):P:=h
theorem x9_ (h:P:=by
 exact ⟨rfl,rfl,rfl,by simp [putRow,mapBlock,Sort.ahead],fun k hk hne=>by
  have:g≠k:=by intro e;exact hne (by rw [e];rfl)
  simp [putRow,mapBlock,Sort.ahead,Array.getElem?_modify,this]⟩):P:=h
theorem x10_ (h:P:=by
 by_cases e:j=i
 ·rw [e];exact h
 ·exact Hok.out j (by omega)):P:=h
theorem y10_ (h:P:=by
 rw [List.mem_map]
 constructor
 ·rintro ⟨q,hq,rfl⟩
  obtain ⟨j,h1,rfl⟩:=mem_ex.1 hq
  exact ⟨j,h1,rfl⟩
 ·rintro ⟨j,h1,rfl⟩
  exact ⟨_,mem_ex.2 ⟨j,h1,rfl⟩,rfl⟩):P:=h
theorem j10_ (h:P:=by
 rw [e] at h3
 have e1:(m.l.length:Int)=1:=h3.2.2.1
 have e2:(1:Int)≤(m.i.length:Int):=h3.2.2.2.1
 have e3:(m.i.length:Int)≤1:=h3.2.2.2.2
 omega):P:=h
theorem k10_ (h:P:=by exact ⟨none,0,rfl,⟨le_refl _,by decide,fun _=>rfl⟩,fun k hk=>absurd hk (by simp)⟩):P:=h
theorem q11_ (h:P:=by exact List.mem_map.2 ⟨x.toNat,List.mem_range.2 (by omega),by show (x.toNat:Int)=x;omega⟩):P:=h
theorem x11_ (h:P:=by
 constructor
 ·exact fun e2=>.inr ⟨h1,e2.2⟩
 ·rintro (⟨j',h2,h3,_⟩ | ⟨_,h2⟩)
  ·exact absurd h3 (h1 j' (by omega))
  ·exact ⟨hi,h2⟩):P:=h
theorem k11_ (h:P:=by simp [Z6_,Mat.a,Mat.b,Mat.n,Mat.l,Mat.i,hl,h0,h1]<;>omega):P:=h
theorem q12_ (h:P:=by
 have hW':=Z0_ (Below.refl _ wr).drew (le_refl _) hW
 have h:=Hkr.out.below hW' Hkr.out.lt
 exact ⟨h.cell 0,h.cell 1,HOc.out W (Z0_ Hb.out (le_refl _) hW')⟩):P:=h
theorem x12_ (h:P:=by simp [Z6_,Mat.a,Mat.b,Mat.l,Mat.i,hf,hl,h0,h1]<;>omega):P:=h
theorem y12_ (h:P:=by simp [Z6_,Mat.a,Mat.b,Mat.n,Mat.l,Mat.i,hl,h1]<;>omega):P:=h
theorem z12_ (h:P:=by simp [Z6_,Mat.a,Mat.b,Mat.n,Mat.l,Mat.i,hl,h0]<;>omega):P:=h
theorem x13_ (h:P:=by
 rcases List.mem_cons.1 hl' with e | e
 ·injection e with e1 e2
  subst e1
  exact absurd hxr hsq
 ·exact ⟨l',e⟩):P:=h
theorem y13_ (h:P:=by
 rintro ⟨h3,h4,h5⟩
 have c1:=H1_ hy h3
 have c2:=J8_ hx (P:=remP (memP s) y) (by unfold remP;rw [h4];rfl)
 exact ⟨h3,h4,by omega⟩):P:=h
theorem z13_ (h:P:=by simp [Z6_,Mat.a,Mat.b,Mat.l,Mat.i,hf,hl,h1]<;>omega):P:=h
theorem j13_ (h:P:=by simp [Z6_,Mat.a,Mat.b,Mat.l,Mat.i,hf,hl,h0]<;>omega):P:=h
theorem k13_ (h:P:=by simp [Z6_,Mat.a,Mat.b,Mat.n,Mat.l,Mat.i,hl]<;>omega):P:=h
theorem x14_ (h:P:=by
 unfold fitsB
 rw [if_neg (by omega),if_neg (by omega),if_neg (by omega),if_neg (by omega),if_neg (by omega),if_neg (by omega),if_neg (by omega)]):P:=h
theorem j14_ (h:P:=by
 refine Zx1 fun c _=>?_
 unfold clsN
 rw [show (fun i=>noneP i && cls i==c)=noneP from by funext i;simp [noneP],G6_,Nat.min_zero]):P:=h
theorem k14_ (h:P:=by simp [Z6_,Mat.a,Mat.b,Mat.l,Mat.i,hf,hl]<;>omega):P:=h
theorem q15_ (h:P:=by
 have e:(⟨g,0,none⟩:Addr).add k=⟨g,k,none⟩:=by unfold Addr.add;split<;>simp_all
 rw [e,h.cell]
 simp [ints,List.getD,hk]):P:=h
theorem x15_ (h:P:=by
 unfold fitsB
 rw [if_neg (by omega),if_neg (by omega),if_neg (by omega),if_neg (by omega),if_neg (by omega),if_neg (by omega),if_pos e]):P:=h
theorem z15_ (h:P:=by
 by_cases hj:j=i
 ·simp only [hj,if_pos]
 ·simp only [hj,if_false]):P:=h
theorem j15_ (h:P:=by
 have e:((n:Int) / 2 ^ k)=((n / 2 ^ k:Nat):Int):=by simp
 rw [e,and_one _ (Nat.lt_of_le_of_lt (Nat.div_le_self _ _) hn),h]
 rfl):P:=h
theorem q16_ (h:P:=by
 refine (Zc8 _ c W (HC.out.up hW) Hl.out).mono ?_
 rintro e w' ⟨rfl,hb⟩
 rw [HT0.out]
 exact ⟨rfl,Z0_ hW (le_refl _) hb⟩):P:=h
theorem x16_ (h:P:=by
 obtain ⟨ad',hA,_,hc⟩:=Hcell.out j (by omega)
 injection hA with hA
 subst hA
 rw [Hwr.out];exact hc):P:=h
theorem y16_ (h:P:=by
 rw [World.cell?_alloc_lt]
 ·exact c0
 ·have:=Hs1.out
  show w.heap.size<_
  omega):P:=h
theorem z16_ (h:P:=by
 unfold J3_
 exact List.mem_map.2 ⟨K,List.mem_filter.2 ⟨mem_upTo.2 ⟨by omega,by have:=hw.hK;omega⟩,hw.last⟩,rfl⟩):P:=h
theorem q17_ (h:P:=by
 rw [show wit n (q :: ws)=if n % q=0 then decide (n=q) else if stB n q then wit n ws else false from rfl,if_neg h,hs]
 rfl):P:=h
theorem x17_ (h:P:=by
 unfold fitsB
 rw [if_neg (by omega),if_neg (by omega),if_neg (by omega),if_neg (by omega),if_neg (by omega),if_pos e]):P:=h
theorem y17_ (h:P:=by
 unfold mayM
 rw [Bool.and_eq_false_iff,Bool.and_eq_false_iff,decide_eq_false_iff_not,decide_eq_false_iff_not]
 omega):P:=h
theorem z17_ (h:P:=by
 obtain ⟨y,_,rfl⟩:=List.mem_map.1 hx
 exact dp_le k y):P:=h
theorem j17_ (h:P:=by
 intro x hx
 obtain ⟨i,hi,rfl⟩:=List.mem_map.1 hx
 exact (hq i (List.mem_range.1 hi)).2.2):P:=h
theorem k17_ (h:P:=by
 subst h
 obtain ⟨_,_,_,⟨h1,h2,_⟩,_⟩:=id hr
 exact may_any v l w hr (by unfold maxLen at h2;omega)):P:=h
theorem q18_ (h:P:=by exact .step _ _ _ _ (by decide) (by decide) (by decide) (by decide) (.stop _ _ (by decide) (by decide) (by decide))):P:=h
theorem x18_ (h:P:=by
 unfold cAt
 rw [hr,List.getD_eq_getElem?_getD,List.getElem?_append_left hi,← List.getD_eq_getElem?_getD]):P:=h
theorem y18_ (h:P:=by
 have h:=Hblk.out.below hW Hblk.out.lt
 exact ⟨h.cell 0,h.cell 1,h.cell 2,h.cell 3,h.cell 4,h.cell 5⟩):P:=h
theorem j18_ (h:P:=by
 refine ⟨⟨h.1.1,?_⟩,fun z hz=>h.2 z (Zb3 hl hz)⟩
 rw [List.length_map]
 have:=N4_ n P
 omega):P:=h
theorem q19_ (h:P:=by
 by_cases e:i=x
 ·rw [e,X7_]
 ·rw [X0_ e] at hi ⊢
  unfold orP
  rw [hi];rfl):P:=h
theorem x19_ (h:P:=by exact Nat.mod_eq_of_lt (by omega)):P:=h
theorem y19_ (h:P:=by
 obtain ⟨a,b,c,d,e⟩:=h.old j h1 h2
 exact ⟨a,by omega,c,d,fun hp=>by omega⟩):P:=h
theorem j19_ (h:P:=by exact List.pairwise_map.2 (((D4_ (k:=ms.length) (by omega)).1.filter _).imp fun h=>by omega)):P:=h
theorem k19_ (h:P:=by
 have h:=hW'.lt x (by simpa using hx)
 simpa using h):P:=h
theorem y20_ (h:P:=by
 rcases Nat.eq_zero_or_pos c with e | e
 ·subst e;omega
 ·omega):P:=h
theorem z20_ (h:P:=by
 show min _ _=min _ _
 rw [N0_ hx hp,if_neg (fun e=>hne e.symm),Nat.add_zero]):P:=h
theorem j20_ (h:P:=by
 simp at hk
 have:=(hq k hk).2.1
 simpa [List.getD,hk] using this):P:=h
theorem k20_ (h:P:=by
 rw [List.range_succ,List.filter_append,List.length_append]
 cases h:p n<;>simp [h]):P:=h
theorem x21_ (h:P:=by
 obtain ⟨m,hm,_,rfl⟩:=hsm y hy
 exact hE m (Zr1 h hs his hm hlt) (.z m hm)):P:=h
theorem y21_ (h:P:=by
 subst e
 rw [if_pos rfl]
 exact .inr ⟨i,hi,rfl,.inl (if_pos rfl)⟩):P:=h
theorem z21_ (h:P:=by
 show _=_
 rw [HN0.out]
 exact B3_ (by rw [← HN0.out];omega)):P:=h
theorem j21_ (h:P:=by
 subst e
 rw [if_pos rfl]
 exact .inr ⟨r,hr,rfl,hg,if_pos rfl⟩):P:=h
theorem k21_ (h:P:=by
 rw [World.cell?_alloc_lt]
 ·exact c1
 ·exact Hs1.out):P:=h
theorem q22_ (h:P:=by
 show Below w.heap.size w wr
 rw [Hwr.out];exact Y4_ (Below.refl _ _) q):P:=h
theorem x22_ (h:P:=by
 have:=(List.getElem?_eq_some_iff.1 hv).1
 simp at this
 omega):P:=h
theorem y22_ (h:P:=by
 refine Decidable.by_contra fun hn=>?_
 rw [O9_ hb hn] at hx
 cases hx):P:=h
theorem z22_ (h:P:=by
 rw [show l.getD i d=l[i] by simp [List.getD,h]]
 exact List.getElem_mem h):P:=h
theorem k29_ (h:P:=by omega):P:=h
theorem x30_ (h:P:=by decide):P:=h
theorem y30_ (h:P:=by simp):P:=h
theorem z30_ (h:P:=by rw [IntKind.wrap_i64];omega):P:=h
theorem j30_ (h:P:=by rw [hW1];have:=Blk.new (w.alloc (.cells #[.int .i64 m.t,.int .i64 m.n,.int .i64 m.a,.int .i64 m.b,.slice Al m.l.length cl,.slice (some ai) m.i.length ci] 37)) 37 #[.int .i64 x.t,.int .i64 x.n,.int .i64 x.a,.int .i64 x.b,.slice Alx x.l.length clx,.slice Aix x.i.length cix];simpa using this):P:=h
theorem k30_ (h:P:=by simp;omega):P:=h
theorem q31_ (h:P:=by decide +kernel):P:=h
theorem x31_ (h:P:=by rw [Z4_];exact hab):P:=h
theorem z31_ (h:P:=by have:=hw.len;omega):P:=h
theorem j31_ (h:P:=by rw [hW0];simp):P:=h
theorem k31_ (h:P:=by unfold maxLen;omega):P:=h
theorem q32_ (h:P:=by rw [hW0];exact (Below.refl _ w).alloc (le_refl _) _):P:=h
theorem x32_ (h:P:=by rw [List.getD_eq_getElem?_getD,List.getElem?_eq_getElem hlt];exact List.getElem_mem hlt):P:=h
theorem y32_ (h:P:=by rw [List.length_take];omega):P:=h
theorem z32_ (h:P:=by simpa using q1):P:=h
theorem j32_ (h:P:=by simpa using q2):P:=h
theorem k32_ (h:P:=by rw [Bool.eq_iff_iff];simp [C0_,Mat.t,Mat.n,Mat.a,Mat.b,Mat.l,Mat.i];exact fun _=>decide_eq_true_iff):P:=h
theorem q33_ (h:P:=by simp [MemPlace.row]):P:=h
theorem x33_ (h:P:=by simp [hx]):P:=h
theorem y33_ (h:P:=by have:=hbr.size;simp;omega):P:=h
theorem z33_ (h:P:=by rw [hW0];exact Blk.new w _ _):P:=h
theorem j33_ (h:P:=by unfold Addr.add;split<;>simp_all):P:=h
theorem k33_ (h:P:=by have:=hn.1;have:=hn.2.1;unfold maxLen at *;omega):P:=h
theorem q34_ (h:P:=by show (ad.add (k * 5)).block<_;rw [Z4_];exact hab):P:=h
theorem x34_ (h:P:=by rw [Z4_];exact halb):P:=h
theorem y34_ (h:P:=by rw [h];exact (Nat.mod_eq_of_lt (by omega)).symm):P:=h
theorem j34_ (h:P:=by rw [← hL0,Bool.eq_iff_iff,beq_iff_eq,decide_eq_true_iff];omega):P:=h
theorem k34_ (h:P:=by simpa using h):P:=h
theorem q35_ (h:P:=by rw [← hN0,Bool.eq_iff_iff,beq_iff_eq,decide_eq_true_iff]):P:=h
theorem y35_ (h:P:=by rw [hW1];exact (Blk.new w _ _).alloc _):P:=h
theorem z35_ (h:P:=by obtain ⟨x1,x2,x3⟩:=ad;cases x3<;>simp [Addr.add]):P:=h
theorem j35_ (h:P:=by rintro rfl;simp [MemPlace.row] at hnd):P:=h
theorem k35_ (h:P:=by simpa using hi):P:=h
theorem q36_ (h:P:=by simpa using ht):P:=h
theorem x36_ (h:P:=by rw [Z4_];exact hasb):P:=h
theorem y36_ (h:P:=by have:=Hb5.out.size;simp;omega):P:=h
theorem z36_ (h:P:=by rw [hz2];omega):P:=h
theorem j36_ (h:P:=by rw [← Hie.out];exact Hok.out):P:=h
theorem k36_ (h:P:=by have:=Hs1.out;simp;omega):P:=h
theorem q37_ (h:P:=by cases h):P:=h
theorem x37_ (h:P:=by rw [Z4_];exact hB):P:=h
theorem y37_ (h:P:=by simpa using h0):P:=h
theorem z37_ (h:P:=by simpa using q3):P:=h
theorem j37_ (h:P:=by rw [HN.out];omega):P:=h
theorem k37_ (h:P:=by simpa using Array.mem_of_getElem? ht):P:=h
theorem q38_ (h:P:=by rw [hm];rfl):P:=h
theorem x38_ (h:P:=by have:=HL.out;omega):P:=h
end Go.Proofs.YtheeajnkiniopaaGreatDoor.Wp
