/- Closing steps that stand often, by their scripts (plain). -/
import Derived.Lib.Hide
namespace Go.Proofs.YtigobiacbficaaaGreatDoor.Wp
variable {P:Prop}
theorem mz_ (h:P:=by simp [intOf];omega):P:=h
theorem z4_ (h:P:=by
 rw [Bool.and_eq_false_iff]
 right
 rw [Bool.eq_false_iff]
 intro e
 have:=List.all_eq_true.1 e adj[i] (List.getElem_mem hi)
 rw [show adj.getD i []=adj[i] by simp [List.getD,hi]] at h
 rw [this] at h
 cases h):P:=h
theorem q5_ (h:P:=by
 obtain ⟨m,hm,rfl⟩:=List.mem_iff_getElem.1 hx
 have hl:l[m]≤l.getD (l.length - 1) 0:=by
  rw [show l.getD (l.length - 1) 0=l[l.length - 1]'(by omega) by simp [List.getD,show l.length - 1<l.length by omega]]
  rcases Nat.lt_or_ge m (l.length - 1) with hlt | hge
  ·exact Int.le_of_lt (List.pairwise_iff_getElem.1 h1 m (l.length - 1) hm (by omega) hlt)
  ·have:m=l.length - 1:=by omega
   subst this
   exact Int.le_refl _
 rw [decide_eq_false (by omega),Bool.false_or,decide_eq_true_iff] at h3
 omega):P:=h
theorem x6_ (h:P:=by
 have h1:=hcap.1
 have h2:=hcap.2.1
 unfold maxLen at h2
 omega):P:=h
theorem k6_ (h:P:=by
 obtain ⟨i,hi,rfl⟩:=List.mem_iff_getElem.1 hl
 have:=h i hi
 rwa [show adj.getD i []=adj[i] by simp [List.getD,hi]] at this):P:=h
theorem k7_ (h:P:=by
 have:=hb1.size
 show _<_
 simp at this
 omega):P:=h
theorem y8_ (h:P:=by
 by_cases h1:i=n
 ·subst h1
  rw [if_pos rfl,List.getElem?_set_self (by simpa using hn)]
  simp [List.getD,ha]
 ·rw [if_neg h1,List.getElem?_set_ne (fun e=>h1 e.symm)]
  by_cases h2:i=a
  ·subst h2
   rw [if_pos rfl,List.getElem?_set_self ha]
   simp [List.getD,hn]
  ·rw [if_neg h2,List.getElem?_set_ne (fun e=>h2 e.symm)]):P:=h
theorem j10_ (h:P:=by exact ⟨none,0,rfl,⟨le_refl _,by decide,fun _=>rfl⟩,fun k hk=>absurd hk (by simp)⟩):P:=h
theorem q11_ (h:P:=by
 by_cases e:j=i
 ·rw [e];exact hb
 ·exact Hok.out j (by omega)):P:=h
theorem x11_ (h:P:=by
 by_cases e:j=i
 ·rw [e];exact h
 ·exact Hok.out j (by omega)):P:=h
theorem y11_ (h:P:=by
 rw [List.any_eq_false]
 intro c hc
 obtain ⟨i,hi,rfl⟩:=List.mem_iff_getElem.1 hc
 have:=h i hi
 simpa [List.getD,hi] using this):P:=h
theorem z11_ (h:P:=by
 constructor
 ·exact fun e2=>.inl ⟨j,hj,rfl,e2.2⟩
 ·rintro (⟨j',h2,h3,h4⟩ | ⟨h2,_⟩)
  ·have:=hw.inj _ _ (by omega) (by omega) h3
   subst this
   exact ⟨hi,h4⟩
  ·exact absurd rfl (h2 j (by omega))):P:=h
theorem j11_ (h:P:=by
 obtain ⟨e1,e2⟩:=h2 i (by omega)
 have a:=e2 0 (by omega)
 have b:=e2 1 (by omega)
 unfold edgOf
 constructor
 ·show ((m.l.getD i []).getD 0 0).toNat<m.a.toNat;omega
 ·show ((m.l.getD i []).getD 1 0).toNat<m.a.toNat;omega):P:=h
theorem z12_ (h:P:=by
 unfold exU
 rw [List.map_map]
 refine List.pairwise_map.2 ((Zx3 (k:Int)).imp_of_mem fun {x y} hx hy hlt e=>?_)
 have h1:=mem_steps.1 hx
 have h2:=mem_steps.1 hy
 have:=hw.inj _ _ (by omega) (by omega) e
 omega):P:=h
theorem k12_ (h:P:=by
 simp [form,Mat.t,Mat.n,Mat.a,Mat.b,Mat.l,Mat.i]
 grind):P:=h
theorem q13_ (h:P:=by
 exact ⟨rfl,rfl,rfl,by simp [putRow,mapBlock,Sort.ahead],fun k hk hne=>by
  have:g≠k:=by intro e;exact hne (by rw [e];rfl)
  simp [putRow,mapBlock,Sort.ahead,Array.getElem?_modify,this]⟩):P:=h
theorem q14_ (h:P:=by
 obtain ⟨A',c',he,_,hc⟩:=h
 injection he with e1 e2 e3
 subst e1 e2 e3
 obtain ⟨ad,rfl,hab,hcl⟩:=hc k hk
 exact ⟨ad,rfl,fun W hW=>(hW.cell (by rw [Z2_];exact hab)).trans hcl⟩):P:=h
theorem y14_ (h:P:=by
 rw [List.mem_map]
 constructor
 ·rintro ⟨q,hq,rfl⟩
  obtain ⟨j,h1,rfl⟩:=mem_ex.1 hq
  exact ⟨j,h1,rfl⟩
 ·rintro ⟨j,h1,rfl⟩
  exact ⟨_,mem_ex.2 ⟨j,h1,rfl⟩,rfl⟩):P:=h
theorem q15_ (h:P:=by
 rw [e] at h3
 have e1:(m.l.length:Int)=1:=h3.2.2.1
 have e2:(1:Int)≤(m.i.length:Int):=h3.2.2.2.1
 have e3:(m.i.length:Int)≤1:=h3.2.2.2.2
 omega):P:=h
theorem x15_ (h:P:=by exact List.mem_map.2 ⟨x.toNat,List.mem_range.2 (by omega),by show (x.toNat:Int)=x;omega⟩):P:=h
theorem z15_ (h:P:=by
 constructor
 ·exact fun e2=>.inr ⟨h1,e2.2⟩
 ·rintro (⟨j',h2,h3,_⟩ | ⟨_,h2⟩)
  ·exact absurd h3 (h1 j' (by omega))
  ·exact ⟨hi,h2⟩):P:=h
theorem q16_ (h:P:=by simp [Z9_,Mat.a,Mat.b,Mat.n,Mat.l,Mat.i,hl,h0,h1]<;>omega):P:=h
theorem x16_ (h:P:=by
 have hW':=Z0_ (Below.refl _ wr).drew (le_refl _) hW
 have h:=Hkr.out.below hW' Hkr.out.lt
 exact ⟨h.cell 0,h.cell 1,HOc.out W (Z0_ Hb.out (le_refl _) hW')⟩):P:=h
theorem z16_ (h:P:=by
 by_cases e:i≤m
 ·exact .inl ⟨e,(hw.el i e).1,(hw.el i e).2⟩
 ·have:i=m+1:=by omega
  exact .inr ⟨this,by rw [this];exact hpt⟩):P:=h
theorem j16_ (h:P:=by simp [Z9_,Mat.a,Mat.b,Mat.l,Mat.i,hf,hl,h0,h1]<;>omega):P:=h
theorem k16_ (h:P:=by simp [Z9_,Mat.a,Mat.b,Mat.n,Mat.l,Mat.i,hl,h1]<;>omega):P:=h
theorem q17_ (h:P:=by simp [Z9_,Mat.a,Mat.b,Mat.n,Mat.l,Mat.i,hl,h0]<;>omega):P:=h
theorem k17_ (h:P:=by
 rcases List.mem_cons.1 hl' with e | e
 ·injection e with e1 e2
  subst e1
  exact absurd hxr hsq
 ·exact ⟨l',e⟩):P:=h
theorem q18_ (h:P:=by
 induction t with
 | nil=>simp [ins]
 | cons a t ih =>
  unfold ins
  split
  ·simp
  ·split
   ·simp
   ·simp;omega):P:=h
theorem x18_ (h:P:=by
 rintro ⟨h3,h4,h5⟩
 have c1:=M2_ hy h3
 have c2:=A4_ hx (P:=remP (memP s) y) (by unfold remP;rw [h4];rfl)
 exact ⟨h3,h4,by omega⟩):P:=h
theorem z18_ (h:P:=by simp [Z9_,Mat.a,Mat.b,Mat.l,Mat.i,hf,hl,h1]<;>omega):P:=h
theorem j18_ (h:P:=by simp [Z9_,Mat.a,Mat.b,Mat.l,Mat.i,hf,hl,h0]<;>omega):P:=h
theorem q19_ (h:P:=by simp [Z9_,Mat.a,Mat.b,Mat.n,Mat.l,Mat.i,hl]<;>omega):P:=h
theorem x19_ (h:P:=by
 unfold Z8_ partL
 split
 ·exact List.length_filter_le _ _
 ·exact Nat.zero_le _):P:=h
theorem y19_ (h:P:=by
 unfold fitsB
 rw [if_neg (by omega),if_neg (by omega),if_neg (by omega),if_neg (by omega),if_neg (by omega),if_neg (by omega),if_neg (by omega)]):P:=h
theorem k19_ (h:P:=by
 refine Zc9 fun c _=>?_
 unfold clsN
 rw [show (fun i=>noneP i && cls i==c)=noneP from by funext i;simp [noneP],F9_,Nat.min_zero]):P:=h
theorem q20_ (h:P:=by simp [Z9_,Mat.a,Mat.b,Mat.l,Mat.i,hf,hl]<;>omega):P:=h
theorem x20_ (h:P:=by
 have e:(⟨g,0,none⟩:Addr).add k=⟨g,k,none⟩:=by unfold Addr.add;split<;>simp_all
 rw [e,h.cell]
 simp [ints,List.getD,hk]):P:=h
theorem y20_ (h:P:=by
 unfold fitsB
 rw [if_neg (by omega),if_neg (by omega),if_neg (by omega),if_neg (by omega),if_neg (by omega),if_neg (by omega),if_pos e]):P:=h
theorem j20_ (h:P:=by
 rw [List.getElem?_append_left hi] at hv
 rw [List.getElem?_append_left (by rw [← h.1];exact hi)] at hp
 exact h.2.1 i v p hv hp):P:=h
theorem k20_ (h:P:=by
 by_cases hj:j=i
 ·simp only [hj,if_pos]
 ·simp only [hj,if_false]):P:=h
theorem q21_ (h:P:=by
 have e:((n:Int) / 2 ^ k)=((n / 2 ^ k:Nat):Int):=by simp
 rw [e,and_one _ (Nat.lt_of_le_of_lt (Nat.div_le_self _ _) hn),h]
 rfl):P:=h
theorem y21_ (h:P:=by
 have:=(h.stored i (.int .i64 z)).1
 rwa [show (ints zs).set i (.int .i64 z)=ints (zs.set i z) by unfold ints;rw [List.map_set]] at this):P:=h
theorem z21_ (h:P:=by
 refine (Zn0 _ c W (HC.out.up hW) Hl.out).mono ?_
 rintro e w' ⟨rfl,hb⟩
 rw [HT0.out]
 exact ⟨rfl,Z0_ hW (le_refl _) hb⟩):P:=h
theorem j21_ (h:P:=by
 have:=(List.getElem?_eq_some_iff.1 hv).1
 simp at this
 omega):P:=h
theorem k21_ (h:P:=by
 obtain ⟨ad',hA,_,hc⟩:=Hcell.out j (by omega)
 injection hA with hA
 subst hA
 rw [Hwr.out];exact hc):P:=h
theorem q22_ (h:P:=by
 rw [World.cell?_alloc_lt]
 ·exact c0
 ·have:=Hs1.out
  show w.heap.size<_
  omega):P:=h
theorem x22_ (h:P:=by
 unfold A3_
 exact List.mem_map.2 ⟨K,List.mem_filter.2 ⟨mem_upTo.2 ⟨by omega,by have:=hw.hK;omega⟩,hw.last⟩,rfl⟩):P:=h
theorem k22_ (h:P:=by
 rw [show wit n (q :: ws)=if n % q=0 then decide (n=q) else if stB n q then wit n ws else false from rfl,if_neg h,hs]
 rfl):P:=h
theorem q23_ (h:P:=by
 simp at hu
 rcases hu with rfl | rfl | rfl | rfl | rfl | rfl<;>rfl):P:=h
theorem x23_ (h:P:=by exact ⟨h.cell 0,h.cell 1,h.cell 2,h.cell 3,h.cell 4,h.cell 5⟩):P:=h
theorem y23_ (h:P:=by
 unfold fitsB
 rw [if_neg (by omega),if_neg (by omega),if_neg (by omega),if_neg (by omega),if_neg (by omega),if_pos e]):P:=h
theorem z23_ (h:P:=by
 rw [List.pairwise_append]
 exact ⟨ho.1.1,by simp,fun a ha b hb=>by rw [List.mem_singleton.1 hb];exact hlt a ha⟩):P:=h
theorem j23_ (h:P:=by
 show Labels _ _ _ _
 rw [hg]
 exact World.rowIs.congr (World.rowIs_made w1 (.int .i64 0) m 3) fun i _=>by simp):P:=h
theorem k23_ (h:P:=by
 unfold mayM
 rw [Bool.and_eq_false_iff,Bool.and_eq_false_iff,decide_eq_false_iff_not,decide_eq_false_iff_not]
 omega):P:=h
theorem q24_ (h:P:=by
 rw [h,hx,decide_eq_false (show ¬ l.length=0 by omega)]
 simp):P:=h
theorem x24_ (h:P:=by
 obtain ⟨y,_,rfl⟩:=List.mem_map.1 hx
 exact dp_le k y):P:=h
theorem y24_ (h:P:=by
 subst h
 obtain ⟨_,_,_,⟨h1,h2,_⟩,_⟩:=id hr
 exact may_any v l w hr (by unfold maxLen at h2;omega)):P:=h
theorem z24_ (h:P:=by
 unfold cAt
 rw [hr,List.getD_eq_getElem?_getD,List.getElem?_append_left hi,← List.getD_eq_getElem?_getD]):P:=h
theorem j24_ (h:P:=by
 intro e he
 obtain ⟨j,hj,rfl⟩:=List.mem_iff_getElem.1 he
 have:=h j (by omega)
 rwa [Zd0 hj] at this):P:=h
theorem k24_ (h:P:=by
 have:((k * R:Nat):Int)=z:=by rw [Int.natCast_mul];exact hz0
 rw [hz0,IntKind.wrap_i64]
 omega):P:=h
theorem q25_ (h:P:=by
 have:=may17_iff.2 ⟨e,show 1≤(n:Int) by omega,by omega⟩
 rw [h] at this
 cases this):P:=h
theorem x25_ (h:P:=by
 refine ⟨⟨h.1.1,?_⟩,fun z hz=>h.2 z (Zl8 hl hz)⟩
 rw [List.length_map]
 have:=T1_ n P
 omega):P:=h
theorem z25_ (h:P:=by
 by_cases e:i=x
 ·rw [e,V0_]
 ·rw [X8_ e] at hi ⊢
  unfold orP
  rw [hi];rfl):P:=h
theorem j25_ (h:P:=by
 obtain ⟨_,_,_,⟨h1,h2,_⟩,_⟩:=id hr
 exact Y6_ v l w hr (by unfold maxLen at h2;omega) h):P:=h
theorem k25_ (h:P:=by exact Nat.mod_eq_of_lt (by omega)):P:=h
theorem q26_ (h:P:=by
 obtain ⟨a,b,c,d,e⟩:=h.old j h1 h2
 exact ⟨a,by omega,c,d,fun hp=>by omega⟩):P:=h
theorem y26_ (h:P:=by exact List.pairwise_map.2 (((H2_ (k:=ms.length) (by omega)).1.filter _).imp fun h=>by omega)):P:=h
theorem z26_ (h:P:=by
 have hm:=Y4_ m.i j default hj
 have:=V3_ hc hm
 exact ⟨this.1,by omega,sml_i hs hm⟩):P:=h
theorem k26_ (h:P:=by
 rw [if_pos e,List.length_cons]
 split<;>(try simp only [List.length_cons])<;>omega):P:=h
theorem y27_ (h:P:=by
 rcases List.mem_append.1 hy with hy | hy
 ·exact ho.1.2 y hy
 ·exact h1.1.2 y hy):P:=h
theorem z27_ (h:P:=by
 unfold Z3_
 refine Nat.le_trans (List.length_filter_le _ _) ?_
 rw [Y8_]
 exact le_refl _):P:=h
theorem j27_ (h:P:=by
 rcases Nat.eq_zero_or_pos c with e | e
 ·subst e;omega
 ·omega):P:=h
theorem k27_ (h:P:=by
 show min _ _=min _ _
 rw [S7_ hx hp,if_neg (fun e=>hne e.symm),Nat.add_zero]):P:=h
theorem q28_ (h:P:=by
 rw [List.range_succ,List.filter_append,List.length_append]
 cases h:p n<;>simp [h]):P:=h
theorem x28_ (h:P:=by
 unfold digB
 rw [Bool.and_eq_false_iff,decide_eq_false_iff_not]
 exact .inl (by omega)):P:=h
theorem y28_ (h:P:=by
 show okE n (es.getD k (0,0))=true
 rw [He.out];simp [hx1,hx2,hy1,hy2]):P:=h
theorem j28_ (h:P:=by
 obtain ⟨m,hm,_,rfl⟩:=hsm y hy
 exact hE m (Yc3 h hs his hm hlt) (.z m hm)):P:=h
theorem k28_ (h:P:=by
 subst e
 rw [if_pos rfl]
 exact .inr ⟨i,hi,rfl,.inl (if_pos rfl)⟩):P:=h
theorem q29_ (h:P:=by
 show _=_
 rw [HN0.out]
 exact F1_ (by rw [← HN0.out];omega)):P:=h
theorem x29_ (h:P:=by
 subst e
 rw [if_pos rfl]
 exact .inr ⟨r,hr,rfl,hg,if_pos rfl⟩):P:=h
theorem y29_ (h:P:=by
 cases l with
 | nil=>simp at hl2
 | cons x l'=>exact ⟨x,l',rfl⟩):P:=h
theorem j29_ (h:P:=by
 show Below _ _ _
 rw [hmb]
 exact (Below.refl _ w1).alloc (Nat.le_refl _) _):P:=h
theorem k29_ (h:P:=by
 rw [World.cell?_alloc_lt]
 ·exact c1
 ·exact Hs1.out):P:=h
theorem q30_ (h:P:=by
 show Below w.heap.size w wr
 rw [Hwr.out];exact Y2_ (Below.refl _ _) q):P:=h
theorem y30_ (h:P:=by
 refine Decidable.by_contra fun hn=>?_
 rw [W0_ hb hn] at hx
 cases hx):P:=h
theorem z30_ (h:P:=by
 rw [show l.getD i d=l[i] by simp [List.getD,h]]
 exact List.getElem_mem h):P:=h
theorem x34_ (h:P:=by
 unfold mayM
 rw [Bool.and_eq_true,Bool.and_eq_true,decide_eq_true_iff,decide_eq_true_iff,List.all_eq_true]
 refine ⟨⟨by omega,by omega⟩,fun l hl=>?_⟩
 exact k6_):P:=h
theorem x36_ (h:P:=by
 unfold digB
 rw [Bool.and_eq_true,decide_eq_true_iff,List.all_eq_true]
 refine ⟨by omega,fun l hl=>?_⟩
 exact k6_):P:=h
theorem k37_ (h:P:=by
 have:pp=[]:=List.eq_nil_of_length_eq_zero hp0
 subst this
 exact j10_):P:=h
theorem y40_ (h:P:=by omega):P:=h
theorem j40_ (h:P:=by rw [hW1];have:=Blk.new (w.alloc (.cells #[.int .i64 m.t,.int .i64 m.n,.int .i64 m.a,.int .i64 m.b,.slice Al m.l.length cl,.slice (some ai) m.i.length ci] 25)) 25 #[.int .i64 x.t,.int .i64 x.n,.int .i64 x.a,.int .i64 x.b,.slice Alx x.l.length clx,.slice Aix x.i.length cix];simpa using this):P:=h
theorem k40_ (h:P:=by simp):P:=h
theorem q41_ (h:P:=by decide):P:=h
theorem x41_ (h:P:=by simp;omega):P:=h
theorem y41_ (h:P:=by rw [IntKind.wrap_i64];omega):P:=h
theorem z41_ (h:P:=by unfold maxLen;omega):P:=h
theorem k41_ (h:P:=by rw [hW0];exact (Blk.new w 25 #[.int .i64 m.t,.int .i64 m.n,.int .i64 m.a,.int .i64 m.b,.slice Al m.l.length cl,.slice (some ai) m.i.length ci]).cell):P:=h
theorem q42_ (h:P:=by decide +kernel):P:=h
theorem x42_ (h:P:=by rw [Z2_];exact hab):P:=h
theorem y42_ (h:P:=by rw [hW0];exact (Below.refl _ w).alloc (le_refl _) _):P:=h
theorem z42_ (h:P:=by rw [hW0];simp):P:=h
theorem j42_ (h:P:=by have:=hw.len;omega):P:=h
theorem k42_ (h:P:=by rw [List.length_take];omega):P:=h
theorem q43_ (h:P:=by rw [hW1];exact (Blk.new w _ _).alloc _):P:=h
theorem x43_ (h:P:=by have:=hbr.size;simp;omega):P:=h
theorem y43_ (h:P:=by simpa using q1):P:=h
theorem z43_ (h:P:=by simpa using q2):P:=h
theorem j43_ (h:P:=by rw [Bool.eq_iff_iff];simp [F7_,Mat.t,Mat.n,Mat.a,Mat.b,Mat.l,Mat.i];exact fun _=>decide_eq_true_iff):P:=h
theorem k43_ (h:P:=by rw [HN.out];omega):P:=h
theorem q44_ (h:P:=by simp [MemPlace.row]):P:=h
theorem y44_ (h:P:=by rw [hW0];exact Blk.new w _ _):P:=h
theorem j44_ (h:P:=by unfold Addr.add;split<;>simp_all):P:=h
theorem k44_ (h:P:=by simpa using h):P:=h
theorem q45_ (h:P:=by simpa using ht):P:=h
theorem x45_ (h:P:=by have:=hn.1;have:=hn.2.1;unfold maxLen at *;omega):P:=h
theorem y45_ (h:P:=by simp [hy]):P:=h
theorem z45_ (h:P:=by show (ad.add (k * 5)).block<_;rw [Z2_];exact hab):P:=h
theorem j45_ (h:P:=by cases hv:(Value.ownBlock _)<;>simp):P:=h
theorem k45_ (h:P:=by have:=hbq.size;simp;omega):P:=h
theorem q46_ (h:P:=by simp [hx]):P:=h
theorem x46_ (h:P:=by rw [h];exact (Nat.mod_eq_of_lt (by omega)).symm):P:=h
theorem k46_ (h:P:=by rw [← hL0,Bool.eq_iff_iff,beq_iff_eq,decide_eq_true_iff];omega):P:=h
theorem q47_ (h:P:=by rw [Z2_];exact halb):P:=h
theorem x47_ (h:P:=by rw [Hsz3.out];omega):P:=h
theorem y47_ (h:P:=by rw [Z2_];exact hasb):P:=h
theorem z47_ (h:P:=by rw [← hX];unfold boxed;simp):P:=h
theorem j47_ (h:P:=by rw [← hN0,Bool.eq_iff_iff,beq_iff_eq,decide_eq_true_iff]):P:=h
theorem k47_ (h:P:=by rintro rfl;simp [MemPlace.row] at hnd):P:=h
theorem q48_ (h:P:=by cases hv:Value.ownBlock _<;>simp):P:=h
theorem x48_ (h:P:=by rw [List.length_append];exact hown6):P:=h
theorem y48_ (h:P:=by simpa using hi):P:=h
theorem z48_ (h:P:=by simp;exact ht):P:=h
theorem j48_ (h:P:=by show (ad.add (k * 2)).block<_;rw [Z2_];exact hab):P:=h
theorem k48_ (h:P:=by have:=Hb5.out.size;simp;omega):P:=h
theorem q49_ (h:P:=by have:=HB1.out.size;simp;omega):P:=h
theorem x49_ (h:P:=by rw [hz2];omega):P:=h
theorem y49_ (h:P:=by rw [← Hie.out];exact Hok.out):P:=h
theorem z49_ (h:P:=by rw [q1];rfl):P:=h
theorem j49_ (h:P:=by have:=Hs1.out;simp;omega):P:=h
theorem k49_ (h:P:=by simp [List.getD,h]):P:=h
theorem q50_ (h:P:=by simpa using hj):P:=h
theorem x50_ (h:P:=by rw [Z2_];exact hB):P:=h
theorem y50_ (h:P:=by simpa using h0):P:=h
theorem z50_ (h:P:=by simpa using h1):P:=h
theorem j50_ (h:P:=by simpa using h2):P:=h
theorem k50_ (h:P:=by simpa using q3):P:=h
theorem q51_ (h:P:=by simp [hm]):P:=h
theorem x51_ (h:P:=by have:=Hstl.out;omega):P:=h
theorem y51_ (h:P:=by rw [HML.out];exact ha2):P:=h
theorem z51_ (h:P:=by rw [← Hxe.out];exact Hroot.out):P:=h
theorem j51_ (h:P:=by rw [hm];rfl):P:=h
theorem k51_ (h:P:=by have:=HL.out;omega):P:=h
end Go.Proofs.YtigobiacbficaaaGreatDoor.Wp
