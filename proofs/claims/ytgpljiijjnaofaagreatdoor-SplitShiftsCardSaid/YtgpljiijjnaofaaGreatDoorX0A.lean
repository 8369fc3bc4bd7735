/- Closing steps that stand often, by their scripts (plain). -/
import Derived.Lib.Hide
namespace Go.Proofs.YtgpljiijjnaofaaGreatDoor.Wp
theorem y3_ {P:Prop} (h:P:=by
 have:=Blk.new (w.alloc (.cells #[.int .i64 a.t,.int .i64 a.n,.int .i64 a.a,.int .i64 a.b,.slice Al a.l.length cl,.slice Ai a.i.length ci] 25)) 25 #[.int .i64 b.t,.int .i64 b.n,.int .i64 b.a,.int .i64 b.b,.slice Bl b.l.length dl,.slice Bi b.i.length di]
 simpa using this):P:=h
theorem j3_ {P:Prop} (h:P:=by
 rw [← hX]
 have:=Blk.new (w.alloc (.cells #[.int .i64 a.t,.int .i64 a.n,.int .i64 a.a,.int .i64 a.b,.slice Al a.l.length cl,.slice Ai a.i.length ci] 25)) 25 #[.int .i64 b.t,.int .i64 b.n,.int .i64 b.a,.int .i64 b.b,.slice Bl b.l.length dl,.slice Bi b.i.length di]
 rwa [show (w.alloc (.cells #[.int .i64 a.t,.int .i64 a.n,.int .i64 a.a,.int .i64 a.b,.slice Al a.l.length cl,.slice Ai a.i.length ci] 25)).heap.size=w.heap.size+1 by simp] at this):P:=h
theorem z4_ {P:Prop} (h:P:=by
 unfold turnP
 congr 1
 rw [Bool.eq_iff_iff,List.any_eq_true,List.any_eq_true]
 constructor
 ·rintro ⟨j,hj,e⟩;rw [List.mem_range] at hj;exact ⟨2 * k - j,List.mem_range.2 (by omega),e⟩
 ·rintro ⟨j,hj,e⟩
  rw [List.mem_range] at hj
  refine ⟨2 * k - j,List.mem_range.2 (by omega),?_⟩
  show (p (2 * k - (2 * k - j))==i)=true
  rw [show 2 * k - (2 * k - j)=j by omega]
  exact e):P:=h
theorem j4_ {P:Prop} (h:P:=by
 rw [Bool.and_eq_false_iff]
 right
 rw [Bool.eq_false_iff]
 intro e
 have:=List.all_eq_true.1 e adj[i] (List.getElem_mem hi)
 rw [show adj.getD i []=adj[i] by simp [List.getD,hi]] at h
 rw [this] at h
 cases h):P:=h
theorem z5_ {P:Prop} (h:P:=by
 have:=hb1.size
 show _<_
 simp at this
 omega):P:=h
theorem x6_ {P:Prop} (h:P:=by
 unfold mayM
 rw [Bool.and_eq_true,Bool.and_eq_true,decide_eq_true_iff,decide_eq_true_iff,List.all_eq_true]
 refine ⟨⟨by omega,by omega⟩,fun l hl=>?_⟩
 obtain ⟨i,hi,rfl⟩:=List.mem_iff_getElem.1 hl
 have:=h i hi
 rwa [show adj.getD i []=adj[i] by simp [List.getD,hi]] at this):P:=h
theorem z6_ {P:Prop} (h:P:=by
 have h1:=hcap.1
 have h2:=hcap.2.1
 unfold maxLen at h2
 omega):P:=h
theorem q7_ {P:Prop} (h:P:=by exact ⟨none,0,rfl,⟨le_refl _,by decide,fun _=>rfl⟩,fun k hk=>absurd hk (by simp)⟩):P:=h
theorem y7_ {P:Prop} (h:P:=by
 by_cases e:j=i
 ·rw [e];exact hb
 ·exact Hok.out j (by omega)):P:=h
theorem j7_ {P:Prop} (h:P:=by
 rw [List.any_eq_false]
 intro c hc
 obtain ⟨i,hi,rfl⟩:=List.mem_iff_getElem.1 hc
 have:=h i hi
 simpa [List.getD,hi] using this):P:=h
theorem k7_ {P:Prop} (h:P:=by
 obtain ⟨e1,e2⟩:=h2 i (by omega)
 have a:=e2 0 (by omega)
 have b:=e2 1 (by omega)
 unfold edgOf
 constructor
 ·show ((m.l.getD i []).getD 0 0).toNat<m.a.toNat;omega
 ·show ((m.l.getD i []).getD 1 0).toNat<m.a.toNat;omega):P:=h
theorem z8_ {P:Prop} (h:P:=by
 cases hg
 rcases HN9.out with h | h
 ·exact HSq.out gg h
 ·have h3:=HQd.out
  have h4:gg=wq.drew.heap.size+1:=by rw [h];simp
  exact .inr (show hi≤gg by omega)):P:=h
theorem j8_ {P:Prop} (h:P:=by
 refine List.pairwise_map.2 (List.Pairwise.imp_of_mem (fun {i j} hi2 hj hne e=>hne ?_) (List.nodup_range (n:=k)))
 rw [List.mem_range] at hi2 hj
 exact hi _ _ (hz.inj _ _ ((hg i).resolve_right (by omega)) ((hg j).resolve_right (by omega)) e)):P:=h
theorem k8_ {P:Prop} (h:P:=by
 have h1:=HG9.out.size
 first | (simp at h1 ⊢;omega) | (simp at h1;omega)):P:=h
theorem x9_ {P:Prop} (h:P:=by
 cases hg
 rcases HN9.out with h | h
 ·exact HSq.out gg h
 ·have h3:=HQd.out
  have h4:gg=w8.heap.size+1:=by rw [h];simp
  exact .inr (show hi≤gg by omega)):P:=h
theorem y9_ {P:Prop} (h:P:=by
 simp [form,Mat.t,Mat.n,Mat.a,Mat.b,Mat.l,Mat.i]
 grind):P:=h
theorem z9_ {P:Prop} (h:P:=by
 exact ⟨rfl,rfl,rfl,by simp [putRow,mapBlock,Sort.ahead],fun k hk hne=>by
  have:g≠k:=by intro e;exact hne (by rw [e];rfl)
  simp [putRow,mapBlock,Sort.ahead,Array.getElem?_modify,this]⟩):P:=h
theorem y10_ {P:Prop} (h:P:=by
 by_cases e:j=i
 ·rw [e];exact h
 ·exact Hok.out j (by omega)):P:=h
theorem z10_ {P:Prop} (h:P:=by
 obtain ⟨A',c',he,_,hc⟩:=h
 injection he with e1 e2 e3
 subst e1 e2 e3
 obtain ⟨ad,rfl,hab,hcl⟩:=hc k hk
 exact ⟨ad,rfl,fun W hW=>(hW.cell (by rw [Z2_];exact hab)).trans hcl⟩):P:=h
theorem j10_ {P:Prop} (h:P:=by
 unfold pairs
 rw [List.map_map,List.mem_map]
 constructor
 ·rintro ⟨j,hj,e⟩;exact ⟨j,List.mem_range.1 hj,e⟩
 ·rintro ⟨j,hj,e⟩;exact ⟨j,List.mem_range.2 hj,e⟩):P:=h
theorem k10_ {P:Prop} (h:P:=by
 rw [e] at h3
 have e1:(m.l.length:Int)=1:=h3.2.2.1
 have e2:(1:Int)≤(m.i.length:Int):=h3.2.2.2.1
 have e3:(m.i.length:Int)≤1:=h3.2.2.2.2
 omega):P:=h
theorem q11_ {P:Prop} (h:P:=by exact List.mem_map.2 ⟨x.toNat,List.mem_range.2 (by omega),by show (x.toNat:Int)=x;omega⟩):P:=h
theorem k11_ {P:Prop} (h:P:=by simp [Z5_,Mat.a,Mat.b,Mat.n,Mat.l,Mat.i,hl,h0,h1]<;>omega):P:=h
theorem q12_ {P:Prop} (h:P:=by simp [Z5_,Mat.a,Mat.b,Mat.l,Mat.i,hf,hl,h0,h1]<;>omega):P:=h
theorem x12_ {P:Prop} (h:P:=by simp [Z5_,Mat.a,Mat.b,Mat.n,Mat.l,Mat.i,hl,h1]<;>omega):P:=h
theorem y12_ {P:Prop} (h:P:=by simp [Z5_,Mat.a,Mat.b,Mat.n,Mat.l,Mat.i,hl,h0]<;>omega):P:=h
theorem z12_ {P:Prop} (h:P:=by
 rcases List.mem_cons.1 hl' with e | e
 ·injection e with e1 e2
  subst e1
  exact absurd hxr hsq
 ·exact ⟨l',e⟩):P:=h
theorem j12_ {P:Prop} (h:P:=by
 rintro ⟨h3,h4,h5⟩
 have c1:=L5_ hy h3
 have c2:=V9_ hx (P:=remP (memP s) y) (by unfold remP;rw [h4];rfl)
 exact ⟨h3,h4,by omega⟩):P:=h
theorem k12_ {P:Prop} (h:P:=by simp [Z5_,Mat.a,Mat.b,Mat.l,Mat.i,hf,hl,h1]<;>omega):P:=h
theorem q13_ {P:Prop} (h:P:=by simp [Z5_,Mat.a,Mat.b,Mat.l,Mat.i,hf,hl,h0]<;>omega):P:=h
theorem x13_ {P:Prop} (h:P:=by simp [Z5_,Mat.a,Mat.b,Mat.n,Mat.l,Mat.i,hl]<;>omega):P:=h
theorem y13_ {P:Prop} (h:P:=by
 unfold fitsB
 rw [if_neg (by omega),if_neg (by omega),if_neg (by omega),if_neg (by omega),if_neg (by omega),if_neg (by omega),if_neg (by omega)]):P:=h
theorem k13_ {P:Prop} (h:P:=by
 refine Zx2 fun c _=>?_
 unfold clsN
 rw [show (fun i=>noneP i && cls i==c)=noneP from by funext i;simp [noneP],B3_,Nat.min_zero]):P:=h
theorem q14_ {P:Prop} (h:P:=by simp [Z5_,Mat.a,Mat.b,Mat.l,Mat.i,hf,hl]<;>omega):P:=h
theorem x14_ {P:Prop} (h:P:=by
 have e:(⟨g,0,none⟩:Addr).add k=⟨g,k,none⟩:=by unfold Addr.add;split<;>simp_all
 rw [e,h.cell]
 simp [ints,List.getD,hk]):P:=h
theorem y14_ {P:Prop} (h:P:=by
 unfold fitsB
 rw [if_neg (by omega),if_neg (by omega),if_neg (by omega),if_neg (by omega),if_neg (by omega),if_neg (by omega),if_pos e]):P:=h
theorem j14_ {P:Prop} (h:P:=by
 by_cases hj:j=i
 ·simp only [hj,if_pos]
 ·simp only [hj,if_false]):P:=h
theorem k14_ {P:Prop} (h:P:=by
 have e:((n:Int) / 2 ^ k)=((n / 2 ^ k:Nat):Int):=by simp
 rw [e,and_one _ (Nat.lt_of_le_of_lt (Nat.div_le_self _ _) hn),h]
 rfl):P:=h
theorem x15_ {P:Prop} (h:P:=by
 obtain ⟨j,hj,rfl⟩:=A4_ hq
 exact ⟨⟨hz.lt _ (by omega),hz.lt _ (by omega)⟩,hz.within j hj,hz.out (j+1) (by omega)⟩):P:=h
theorem y15_ {P:Prop} (h:P:=by
 obtain ⟨ad',hA,_,hc⟩:=Hcell.out j (by omega)
 injection hA with hA
 subst hA
 rw [Hwr.out];exact hc):P:=h
theorem z15_ {P:Prop} (h:P:=by
 rw [World.cell?_alloc_lt]
 ·exact c0
 ·have:=Hs1.out
  show w.heap.size<_
  omega):P:=h
theorem q16_ {P:Prop} (h:P:=by
 rw [show wit n (q :: ws)=if n % q=0 then decide (n=q) else if stB n q then wit n ws else false from rfl,if_neg h,hs]
 rfl):P:=h
theorem x16_ {P:Prop} (h:P:=by
 rw [show (⟨G,0,none⟩:Addr).add k=⟨G,k,none⟩ by unfold Addr.add;split<;>simp_all,h.blk.cell]
 simp [hkv]):P:=h
theorem y16_ {P:Prop} (h:P:=by
 unfold fitsB
 rw [if_neg (by omega),if_neg (by omega),if_neg (by omega),if_neg (by omega),if_neg (by omega),if_pos e]):P:=h
theorem z16_ {P:Prop} (h:P:=by
 rw [h1] at he
 injection he with he
 injection he with he
 injection he with he
 omega):P:=h
theorem j16_ {P:Prop} (h:P:=by
 unfold mayM
 rw [Bool.and_eq_false_iff,Bool.and_eq_false_iff,decide_eq_false_iff_not,decide_eq_false_iff_not]
 omega):P:=h
theorem k16_ {P:Prop} (h:P:=by
 obtain ⟨y,_,rfl⟩:=List.mem_map.1 hx
 exact dp_le k y):P:=h
theorem q17_ {P:Prop} (h:P:=by
 split
 ·exact List.length_filter_le _ _
 ·exact Nat.zero_le _):P:=h
theorem x17_ {P:Prop} (h:P:=by
 subst h
 obtain ⟨_,_,_,⟨h1,h2,_⟩,_⟩:=id hr
 exact may_any v l w hr (by unfold maxLen at h2;omega)):P:=h
theorem y17_ {P:Prop} (h:P:=by
 unfold cAt
 rw [hr,List.getD_eq_getElem?_getD,List.getElem?_append_left hi,← List.getD_eq_getElem?_getD]):P:=h
theorem z17_ {P:Prop} (h:P:=by
 refine ⟨⟨h.1.1,?_⟩,fun z hz=>h.2 z (Zb4 hl hz)⟩
 rw [List.length_map]
 have:=N6_ n P
 omega):P:=h
theorem j17_ {P:Prop} (h:P:=by
 rw [Z8_ e] at hi
 unfold andP at hi
 rw [Bool.and_eq_true] at hi
 exact hi.2):P:=h
theorem k17_ {P:Prop} (h:P:=by
 by_cases e:i=x
 ·rw [e,Y0_]
 ·rw [Z8_ e] at hi ⊢
  unfold orP
  rw [hi];rfl):P:=h
theorem q18_ {P:Prop} (h:P:=by
 obtain ⟨h1,h2,h3⟩:=h
 rw [h1]
 unfold setK at h2 h3
 simp only [D0_,h2,h3]
 decide +kernel):P:=h
theorem x18_ {P:Prop} (h:P:=by exact Nat.mod_eq_of_lt (by omega)):P:=h
theorem y18_ {P:Prop} (h:P:=by
 obtain ⟨a,b,c,d,e⟩:=h.old j h1 h2
 exact ⟨a,by omega,c,d,fun hp=>by omega⟩):P:=h
theorem k18_ {P:Prop} (h:P:=by
 have:¬ (i:Int)∈l:=fun h=>by rw [(hany i).2 h] at h2;cases h2
 simp [this]):P:=h
theorem q19_ {P:Prop} (h:P:=by
 unfold andP
 cases hSi:S i
 ·rfl
 ·rw [lev_iff.2 (hall i hi hSi)];rfl):P:=h
theorem j19_ {P:Prop} (h:P:=by
 show min _ _=min _ _
 rw [N3_ hx hp,if_neg (fun e=>hne e.symm),Nat.add_zero]):P:=h
theorem k19_ {P:Prop} (h:P:=by
 rcases Nat.eq_zero_or_pos c with e | e
 ·subst e;omega
 ·omega):P:=h
theorem q20_ {P:Prop} (h:P:=by
 simp only [Bool.false_eq_true,if_false]
 omega):P:=h
theorem x20_ {P:Prop} (h:P:=by
 injection e with e
 injection e with e
 injection e with e
 rw [e];exact hg):P:=h
theorem y20_ {P:Prop} (h:P:=by simp only [Bool.false_eq_true,if_false];omega):P:=h
theorem z20_ {P:Prop} (h:P:=by
 rw [List.range_succ,List.filter_append,List.length_append]
 cases h:p n<;>simp [h]):P:=h
theorem j20_ {P:Prop} (h:P:=by
 rw [show 2 * k - (2 * i+1)=2 * (k - i - 1)+1 by omega]
 exact hwi _ (by omega)):P:=h
theorem q21_ {P:Prop} (h:P:=by
 obtain ⟨m,hm,_,rfl⟩:=hsm y hy
 exact hE m (Zs2 h hs his hm hlt) (.z m hm)):P:=h
theorem x21_ {P:Prop} (h:P:=by simpa only [List.setIfInBounds_toArray,List.set_cons_zero,List.set_cons_succ] using h):P:=h
theorem y21_ {P:Prop} (h:P:=by
 subst e
 rw [if_pos rfl]
 exact .inr ⟨i,hi,rfl,.inl (if_pos rfl)⟩):P:=h
theorem z21_ {P:Prop} (h:P:=by
 show _=_
 rw [HN0.out]
 exact C1_ (by rw [← HN0.out];omega)):P:=h
theorem j21_ {P:Prop} (h:P:=by
 rw [show pp.getD k []=pp[k] by simp [List.getD,hk]]
 exact Row.of_own this rfl):P:=h
theorem k21_ {P:Prop} (h:P:=by
 subst e
 rw [if_pos rfl]
 exact .inr ⟨r,hr,rfl,hg,if_pos rfl⟩):P:=h
theorem q22_ {P:Prop} (h:P:=by rw [Array.getElem?_eq_none (by omega),Array.getElem?_eq_none (by simp;omega)]):P:=h
theorem y22_ {P:Prop} (h:P:=by
 rw [World.cell?_alloc_lt]
 ·exact c1
 ·exact Hs1.out):P:=h
theorem z22_ {P:Prop} (h:P:=by simp [List.getD,h]):P:=h
theorem j22_ {P:Prop} (h:P:=by
 show Below w.heap.size w wr
 rw [Hwr.out];exact Y8_ (Below.refl _ _) q):P:=h
theorem k22_ {P:Prop} (h:P:=by
 have:=(List.getElem?_eq_some_iff.1 hv).1
 simp at this
 omega):P:=h
theorem q23_ {P:Prop} (h:P:=by
 refine Decidable.by_contra fun hn=>?_
 rw [O7_ hb hn] at hx
 cases hx):P:=h
theorem x23_ {P:Prop} (h:P:=by
 rw [show l.getD i d=l[i] by simp [List.getD,h]]
 exact List.getElem_mem h):P:=h
theorem k30_ {P:Prop} (h:P:=by omega):P:=h
theorem y31_ {P:Prop} (h:P:=by simp):P:=h
theorem z31_ {P:Prop} (h:P:=by decide):P:=h
theorem j31_ {P:Prop} (h:P:=by simp;omega):P:=h
theorem k31_ {P:Prop} (h:P:=by rw [IntKind.wrap_i64];omega):P:=h
theorem q32_ {P:Prop} (h:P:=by rw [hW1];have:=Blk.new (w.alloc (.cells #[.int .i64 m.t,.int .i64 m.n,.int .i64 m.a,.int .i64 m.b,.slice Al m.l.length cl,.slice (some ai) m.i.length ci] 25)) 25 #[.int .i64 x.t,.int .i64 x.n,.int .i64 x.a,.int .i64 x.b,.slice Alx x.l.length clx,.slice Aix x.i.length cix];simpa using this):P:=h
theorem x32_ {P:Prop} (h:P:=by decide +kernel):P:=h
theorem y32_ {P:Prop} (h:P:=by rw [Z2_];exact hab):P:=h
theorem j32_ {P:Prop} (h:P:=by unfold maxLen;omega):P:=h
theorem k32_ {P:Prop} (h:P:=by rfl):P:=h
theorem q33_ {P:Prop} (h:P:=by rw [hW0];simp):P:=h
theorem x33_ {P:Prop} (h:P:=by simpa using q1):P:=h
theorem y33_ {P:Prop} (h:P:=by simpa using q2):P:=h
theorem z33_ {P:Prop} (h:P:=by rw [Bool.eq_iff_iff];simp [C9_,Mat.t,Mat.n,Mat.a,Mat.b,Mat.l,Mat.i];exact fun _=>decide_eq_true_iff):P:=h
theorem j33_ {P:Prop} (h:P:=by rw [← hX];exact (Blk.new w _ _).alloc _):P:=h
theorem k33_ {P:Prop} (h:P:=by simp [MemPlace.row]):P:=h
theorem q34_ {P:Prop} (h:P:=by simp [hx]):P:=h
theorem x34_ {P:Prop} (h:P:=by have:=hbr.size;simp;omega):P:=h
theorem y34_ {P:Prop} (h:P:=by have:=hn.1;have:=hn.2.1;unfold maxLen at *;omega):P:=h
theorem z34_ {P:Prop} (h:P:=by show (ad.add (k * 5)).block<_;rw [Z2_];exact hab):P:=h
theorem j34_ {P:Prop} (h:P:=by rw [Z2_];exact halb):P:=h
theorem k34_ {P:Prop} (h:P:=by rw [hW2];exact ((Blk.new w _ _).alloc _).alloc _):P:=h
theorem q35_ {P:Prop} (h:P:=by rw [h];exact (Nat.mod_eq_of_lt (by omega)).symm):P:=h
theorem x35_ {P:Prop} (h:P:=by rw [List.length_take];omega):P:=h
theorem y35_ {P:Prop} (h:P:=by have h1:=HB0;simp;omega):P:=h
theorem z35_ {P:Prop} (h:P:=by rw [← hL0,Bool.eq_iff_iff,beq_iff_eq,decide_eq_true_iff];omega):P:=h
theorem j35_ {P:Prop} (h:P:=by simpa using h):P:=h
theorem k35_ {P:Prop} (h:P:=by simp [World.setCell]):P:=h
theorem q36_ {P:Prop} (h:P:=by rw [getD_replicate_false] at hl;cases hl):P:=h
theorem x36_ {P:Prop} (h:P:=by rw [← hN0,Bool.eq_iff_iff,beq_iff_eq,decide_eq_true_iff]):P:=h
theorem y36_ {P:Prop} (h:P:=by rw [Hn2.out,← List.append_assoc,hbk]):P:=h
theorem z36_ {P:Prop} (h:P:=by have:=Hadl.out;omega):P:=h
theorem j36_ {P:Prop} (h:P:=by rw [hW1];exact (Blk.new w _ _).alloc _):P:=h
theorem k36_ {P:Prop} (h:P:=by rw [hW2];exact (Blk.new w _ _).alloc _):P:=h
theorem q37_ {P:Prop} (h:P:=by rintro rfl;simp [MemPlace.row] at hnd):P:=h
theorem x37_ {P:Prop} (h:P:=by have h1:=HbX.out.size;have h2:=HBd.out.size;omega):P:=h
theorem y37_ {P:Prop} (h:P:=by simpa using ht):P:=h
theorem z37_ {P:Prop} (h:P:=by rw [Z2_];exact hasb):P:=h
theorem j37_ {P:Prop} (h:P:=by rw [hW0];exact (Below.refl _ w).alloc (le_refl _) _):P:=h
theorem k37_ {P:Prop} (h:P:=by rw [HAl.out];omega):P:=h
theorem q38_ {P:Prop} (h:P:=by rw [HBl.out];omega):P:=h
theorem x38_ {P:Prop} (h:P:=by rw [hz2];omega):P:=h
theorem y38_ {P:Prop} (h:P:=by rw [← Hie.out];exact Hok.out):P:=h
theorem z38_ {P:Prop} (h:P:=by unfold dstOf;rw [ho];exact e):P:=h
theorem j38_ {P:Prop} (h:P:=by have:=Hs1.out;simp;omega):P:=h
theorem k38_ {P:Prop} (h:P:=by simpa [Addr.add] using World.cell?_spot hc):P:=h
theorem q39_ {P:Prop} (h:P:=by cases h):P:=h
theorem x39_ {P:Prop} (h:P:=by simpa using hi):P:=h
theorem y39_ {P:Prop} (h:P:=by simpa using q3):P:=h
theorem z39_ {P:Prop} (h:P:=by rw [Hpl.out];exact hlt):P:=h
theorem j39_ {P:Prop} (h:P:=by unfold Addr.add;split<;>simp_all):P:=h
theorem k39_ {P:Prop} (h:P:=by intro e;rw [e] at hjt;simp at hjt):P:=h
theorem q40_ {P:Prop} (h:P:=by rw [hm];rfl):P:=h
theorem x40_ {P:Prop} (h:P:=by have:=HL.out;omega):P:=h
end Go.Proofs.YtgpljiijjnaofaaGreatDoor.Wp
