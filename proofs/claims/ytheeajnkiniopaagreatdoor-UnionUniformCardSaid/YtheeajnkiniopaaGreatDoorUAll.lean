/- The document's Classes and Bound of layer 16, walked, where they hold (written by gen_urcls.py). -/
import Derived.Test.YtheeajnkiniopaaGreatDoorURMay
import Derived.Test.YtheeajnkiniopaaGreatDoorUApp
import Derived.Test.YtheeajnkiniopaaGreatDoorVIndep
import Derived.Test.YtheeajnkiniopaaGreatDoorUAdj
import Derived.Test.YtheeajnkiniopaaGreatDoorX0A
import Derived.Test.YtheeajnkiniopaaGreatDoorX0B
set_option maxHeartbeats 16000000
set_option maxRecDepth 100000
open Go.Lib (hid)
open Nat (le_refl)
namespace Go.Proofs.YtheeajnkiniopaaGreatDoor.Wp
open Go Go.RowKit
theorem Xo7 {ms:List Mat} {n:Nat} {u:List Int} (d:Several ms n) (g:InN n u):∀ k,k<ms.length→-1≤rankT (ms.getD k default) u∧rankT (ms.getD k default) u≤1000:=fun k f=>by
 obtain ⟨c,e⟩:=d.may k f;have h:=(rk_of c).le_cnt (memP u);have j:=A0_ (memP u) (nN (ms.getD k default));have m:=d.n64;rw [Zz6 (mayI_iff.2 ⟨c,by rw [e];exact g⟩)];omega
theorem Vs0 {n:Nat} {u:List Int} (h:InN n u):okA (n:Int) u=true:=by
 unfold okA;rw [L0_ h.1,Bool.true_and,Bool.or_eq_true,decide_eq_true_iff,decide_eq_true_iff];rcases Nat.eq_zero_or_pos u.length with c | c
 ·exact .inl c
 ·refine .inr (h.2 _ ?_).2
  rw [show u.getD (u.length - 1) 0=u[u.length - 1] by simp [List.getD,List.getElem?_eq_getElem (show u.length - 1<u.length by omega)]];exact z24_
theorem Zg4 (ms:List Mat) (Y vc:Value) (c:List Int) (w:World) (hl:MatL w w.heap.size Y ms) (hs:∀ m∈ms,Sml m) (D:Row w w.heap.size vc c) (hc:Cls ms c):Calls Tryz.prog 21 #[Y,vc] w (Says w true):=by
 have HL:=hid hl;have L:=hid D;have Hs:=hid hs;have s:=hid hc;obtain ⟨Al,dl,rfl,-⟩:=id hl;obtain ⟨Z,cc,rfl,-⟩:=id D;have x4:=hc.n64;obtain ⟨x9,xa⟩:=hc.many;have x5:(c.length:Int)≤64:=x37_;have xb:(ms.length:Int)≤8:=x37_;clear hl D hs hc
 go_enter Tryz.func21,Tryz.ntmps21
 go_wp2_with fail
 go_loopw [5] (fun I wr=>∃ x:Nat,I=.int .i64 x∧x≤c.length∧Below w.heap.size w wr) (fun I _=>c.length - (intOf I).toNat)
 case atStart=>exact ⟨0,rfl,Nat.zero_le _,Below.refl _ _⟩
 case round =>
  obtain ⟨x,rfl,hx,o⟩:=hrel;have g:=hid o;clear o;by_cases R:x<c.length
  ·have x8:(x:Int)<(c.length:Int):=by omega
   obtain ⟨d,q,P⟩:=L.out.nth R;subst q;have q0:=P wr g.out;obtain ⟨z,X⟩:∃ z,c.getD x 0=z:=⟨_,rfl⟩;have V:=s.out.rng x R;rw [X] at q0 V;have g1:¬ z < -1:=x37_;have g2:¬ (ms.length:Int)≤z:=x37_;clear P X V;go_wp2
   go_roundw
   case rel=>exact ⟨x+1,y38_,x37_,g.out⟩
   exact mz_
  ·have xc:¬ (x:Int)<(c.length:Int):=by omega
   go_wp2_with fail
   go_loopw [6] (fun H wr=>∃ k:Nat,H=.int .i64 k∧k≤ms.length∧Below w.heap.size w wr) (fun H _=>ms.length - (intOf H).toNat)
   case atStart=>exact ⟨0,rfl,Nat.zero_le _,g.out⟩
   case round =>
    clear g;obtain ⟨k,rfl,hk,o⟩:=hrel;have g:=hid o;clear o;by_cases p:k<ms.length
    ·have x6:(k:Int)<(ms.length:Int):=by omega
     obtain ⟨d,d2,G,F,q,C,y⟩:=MatL.one HL.out p;obtain rfl:Al=some d:=(Value.slice.inj q).1;have T:ms.getD k default∈ms:=by rw [List.getD_eq_getElem?_getD,List.getElem?_eq_getElem p];exact List.getElem_mem p
     have E:=Hs.out _ T;obtain ⟨Q,x3⟩:=s.out.may k p;have B:=s.out.ind k p;have r:(ms.getD k default).n=(c.length:Int):=by have:=Z7_ Q;omega
     obtain ⟨m,S⟩:∃ m,ms.getD k default=m:=⟨_,rfl⟩;rw [S] at C y E r B;have K:Hid (∀ W,Below wr.drew.heap.size wr.drew W→(W.cell? (d.add (k * 6))=some (.int .i64 m.t)∧W.cell? ⟨(d.add (k * 6)).block,(d.add (k * 6)).off+1,none⟩=some (.int .i64 (c.length:Int))∧W.cell? ⟨(d.add (k * 6)).block,(d.add (k * 6)).off+2,none⟩=some (.int .i64 m.a)∧W.cell? ⟨(d.add (k * 6)).block,(d.add (k * 6)).off+3,none⟩=some (.int .i64 m.b)∧W.cell? ⟨(d.add (k * 6)).block,(d.add (k * 6)).off+4,none⟩=some G∧W.cell? ⟨(d.add (k * 6)).block,(d.add (k * 6)).off+5,none⟩=some F)):=hid fun W u=>by
      have h:=y W (Z0_ g.out (le_refl _) (Z0_ (Below.refl _ wr).drew (le_refl _) u));rw [r] at h;exact h
     have J:Hid (∀ W (v:Value),Below wr.drew.heap.size wr.drew W→Row W W.heap.size v (Z3_ c (k:Int))→Calls Tryz.prog 46 #[.agg #[.int .i64 m.t,.int .i64 (c.length:Int),.int .i64 m.a,.int .i64 m.b,G,F],v] W (Says W true)):=hid fun W v u hv=>by
      have h:=Zl1 m _ v (Z3_ c (k:Int)) W (C.up (Z0_ g.out (le_refl _) (Z0_ (Below.refl _ wr).drew (le_refl _) u))) E hv;rw [r,B] at h;exact h
     have M:Hid (Row wr.drew wr.drew.heap.size (.slice Z c.length cc) c):=hid (L.out.up g.out.drew);have x2:Hid (c.length≤1048576):=hid x37_;have j:Hid (Below wr.drew.heap.size wr.drew wr.drew):=hid (Below.refl _ _);clear q T E Q x3 B r S C y;go_wp2
     go_region_held3 (fun W=>(W.cell? (d.add (k * 6))=some (.int .i64 m.t)∧W.cell? ⟨(d.add (k * 6)).block,(d.add (k * 6)).off+1,none⟩=some (.int .i64 (c.length:Int))∧W.cell? ⟨(d.add (k * 6)).block,(d.add (k * 6)).off+2,none⟩=some (.int .i64 m.a)∧W.cell? ⟨(d.add (k * 6)).block,(d.add (k * 6)).off+3,none⟩=some (.int .i64 m.b)∧W.cell? ⟨(d.add (k * 6)).block,(d.add (k * 6)).off+4,none⟩=some G∧W.cell? ⟨(d.add (k * 6)).block,(d.add (k * 6)).off+5,none⟩=some F))
      (exact K.out _ j.out)
      (first
      | (go_at_call 19;refine (B3_ _ c (k:Int) _ (M.out.up j.out) x2.out).mono ?_;rintro e w3 ⟨v3,rfl,U,N⟩;replace j:=hid (Z0_ j.out (le_refl _) N);have x1:=hid U;clear U N)
      | (go_at_call 46;refine (J.out _ _ j.out x1.out).mono ?_;rintro e w4 ⟨rfl,O⟩;replace j:=hid (Z0_ j.out (le_refl _) O);clear O))
     all_goals
      have x0:=hid (Z0_ g.out (le_refl _) (Z0_ (Below.refl _ wr).drew (le_refl _) j.out));clear K J M j;go_wp2
      go_roundw
      case rel=>exact ⟨k+1,y38_,x37_,x0.out⟩
      exact mz_
    ·have x7:¬ (k:Int)<(ms.length:Int):=by omega
     go_wp2;go_ret;exact ⟨rfl,g.out⟩
theorem Xo8 (E:Nat→Addr) (ms:List Mat) (vl vu:Value) (u:List Int) (w:World) (hl:MatL w w.heap.size vl ms) (hs:∀ m∈ms,Sml m) (d:Row w w.heap.size vu u) (c:sevB ms=true) (o:InN (nN (ms.getD 0 default)) u):Calls Tryz.prog 17 #[vl,vu] w (Tells w (B4_ ms u)):=by
 have J:=hid hl;have K:=hid d;have N:=hid hs;have p:=hid (sev_iff.1 c).1;obtain ⟨V,xh⟩:=p.out.many;obtain ⟨ad,dl,xo,xn,rfl,_,hcl0⟩:=MatL.one hl V;obtain ⟨Au,cu,rfl,-⟩:=id d;obtain ⟨D,xb⟩:=p.out.may 0 V;have xa:=p.out.n64;have xd:=Y4_ o;obtain ⟨n,Y⟩:∃ n,nN (ms.getD 0 default)=n:=⟨_,rfl⟩;have hnz:(ms.getD 0 default).n=(n:Int):=by have:=Z7_ D;omega
 have hea:ad.add (0 * 6)=ad:=q40_;have C:Hid (∀ W,Below w.heap.size w W→W.cell? ⟨ad.block,ad.off+1,none⟩=some (.int .i64 n)):=hid fun W hW=>j22_;have Z:okA (n:Int) u=true:=Vs0 (by rw [← Y];exact o);have x6:=hid Z;have Hm:=hid c;have g:∀ k,k<ms.length→0≤rankT (ms.getD k default) u∧rankT (ms.getD k default) u≤64:=fun k v=>by
  obtain ⟨O,a2⟩:=p.out.may k v;have a3:=(rk_of O).le_cnt (memP u);have a4:=A0_ (memP u) (nN (ms.getD k default));rw [Zz6 (mayI_iff.2 ⟨O,by rw [a2];exact o⟩)];omega
 have M:=hid g;have x7:Hid (B4_ ms u=(n:Int) - (u.length:Int)+J8_ ms u ms.length):=hid (by
  unfold B4_;rw [if_pos (by rw [c,mayI_iff.2 ⟨D,o⟩];rfl),hnz])
 have x8:Hid (∀ k:Nat,k≤ms.length→0≤J8_ ms u k∧J8_ ms u k≤64 * (k:Int)):=hid (by
  intro k
  induction k with
  | zero=>intro _;exact ⟨Int.le_refl _,Int.le_refl _⟩
  | succ k ih =>
   intro v;have i1:=ih x37_;have i2:=M.out k x37_;show 0≤J8_ ms u k+rankT (ms.getD k default) u∧J8_ ms u k+rankT (ms.getD k default) u≤_;omega)
 have xk:(u.length:Int)≤(n:Int):=x37_;have xj:(n:Int)≤64:=x37_;have xi:(ms.length:Int)≤8:=x37_;have xg:(0:Int)<(ms.length:Int):=x37_;have xl:IntKind.i64.wrap ((n:Int) - (u.length:Int))=(n:Int) - (u.length:Int):=q38_;rw [x7.out];clear hl d hs hcl0 D xb xd Y hnz hea Z c o g xa;have q1:=C.out w (Below.refl _ _)
 go_enter Tryz.func17,Tryz.ntmps17
 go_wp2_with fail
 refine (K5_ E ms _ _ J.out N.out x37_).mono ?_;rintro e w1 ⟨rfl,Q⟩;rw [Hm.out];have s:=hid Q;clear Q q1;have q1:=C.out w1 s.out
 go_wp2_with fail
 refine (F4_ _ u n _ (K.out.up s.out)).mono ?_;rintro e w2 ⟨rfl,R⟩;rw [x6.out];have B:=hid (Z0_ s.out (le_refl _) R);clear R q1 s;have q1:=C.out w2 B.out
 go_wp2_with fail
 go_loopw [5,6] (fun vn I wr=>∃ (k:Nat) (z:Int),I=.int .i64 k∧vn=.int .i64 z∧z=(n:Int) - (u.length:Int)+J8_ ms u k∧k≤ms.length∧Below w.heap.size w wr) (fun _ I _=>ms.length - (intOf I).toNat)
 case atStart=>exact ⟨0,_,rfl,y38_,by show _=_+(0:Int);omega,Nat.zero_le _,B.out⟩
 case round =>
  clear B q1;obtain ⟨k,z,rfl,rfl,hz,v,T⟩:=hrel;have j:=hid T;have q:=hid hz;clear T hz;by_cases x:k<ms.length
  ·have xe:(k:Int)<(ms.length:Int):=by omega
   obtain ⟨x9,d2,lv,iv,P,G,F⟩:=MatL.one J.out x;obtain rfl:ad=x9:=Option.some.inj (Value.slice.inj P).1;have X:ms.getD k default∈ms:=by rw [List.getD_eq_getElem?_getD,List.getElem?_eq_getElem x];exact List.getElem_mem x
   have H:=N.out _ X;have g:=M.out k x;have xc:=x8.out k v;have y:J8_ ms u (k+1)=J8_ ms u k+rankT (ms.getD k default) u:=rfl;obtain ⟨m,c⟩:∃ m,ms.getD k default=m:=⟨_,rfl⟩;rw [c] at G F H g y;obtain ⟨q0,q1,q2,q3,q4,q5⟩:=F wr j.out;have L:=hid (Yj6 m _ _ u wr (G.up j.out) H (K.out.up j.out));obtain ⟨r,d⟩:∃ r,rankT m u=r:=⟨_,rfl⟩;rw [d] at L g y;have xm:IntKind.i64.wrap (z+r)=z+r:=by rw [IntKind.wrap_i64];have:=q.out;omega
   have x5:=hid y;clear P X H g xc y c G F d
   go_wp2_with fail
   refine L.out.mono ?_;rintro e w3 ⟨rfl,S⟩;have x0:=hid (Z0_ j.out (le_refl _) S);clear S q0 q1 q2 q3 q4 q5;go_wp2
   go_roundw
   case rel=>exact ⟨k+1,z+r,y38_,y38_,by have:=q.out;have:=x5.out;omega,x37_,x0.out⟩
   exact mz_
  ·have U:k=ms.length:=by omega
   have xf:¬ (k:Int)<(ms.length:Int):=x37_;have x4:Hid (z=(n:Int) - (u.length:Int)+J8_ ms u ms.length):=hid (by rw [← U];exact q.out);clear U q;go_wp2;go_ret;exact ⟨by rw [x4.out];rfl,j.out⟩
open Go Go.RowKit
def posTo (c:List Int) (i:Nat):Nat:=((c.take i).filter fun z=>decide (0≤z)).length
noncomputable def bestK (ms:List Mat) (c:List Int) (g:Int→Int):Nat→Int
 | 0=>g (-1)
 | k+1=>if indT (ms.getD k default) (Y2_ (Z3_ c (k:Int)) [(c.length:Int)])=true then max (bestK ms c g k) (g (k:Int)) else bestK ms c g k
noncomputable def allM (ms:List Mat):Nat→List Int→Int
 | 0,c=>(posTo c c.length:Int)
 | f+1,c=>bestK ms c (fun z=>allM ms f (c ++ [z])) ms.length
theorem Zl3 {c:List Int} {i:Nat} (h:i<c.length):posTo c (i+1)=posTo c i+if 0≤c.getD i 0 then 1 else 0:=by
 unfold posTo;rw [List.take_succ_eq_append_getElem h,List.filter_append,List.length_append,show c.getD i 0=c[i] by simp [List.getD,h]];by_cases d:0≤c[i]
 ·simp [d]
 ·simp [d]
theorem Yp4 (c:List Int) (i:Nat):posTo c i≤i:=by
 unfold posTo;refine Nat.le_trans (List.length_filter_le _ _) ?_;rw [List.length_take];omega
theorem Zl4 (c:List Int) (z k:Int):Z3_ (c ++ [z]) k=Z3_ c k ++ if z=k then [(c.length:Int)] else []:=by
 unfold Z3_;rw [List.length_append,show [z].length=1 from rfl,N4_,List.filter_append];congr 1
 ·refine List.filter_congr fun x d=>?_
  have:=mem_upTo.1 d;rw [show (c ++ [z]).getD x.toNat 0=c.getD x.toNat 0 by simp only [List.getD_eq_getElem?_getD];rw [List.getElem?_append_left x37_]]
 ·have e:(c ++ [z]).getD ((c.length:Int)).toNat 0=z:=by simp
  by_cases h:z=k
  ·rw [if_pos h,List.filter_cons_of_pos (by rw [e];simpa using h)]
   rfl
  ·rw [if_neg h,List.filter_cons_of_neg (by rw [e];simpa using h)]
   rfl
theorem Vb8 {c:List Int} {k x:Int} (h:x∈Z3_ c k):0≤x∧x<(c.length:Int):=(mem_class.1 h).1
theorem Zl5 {c:List Int} (h:c.length<64) (k:Int):Y2_ (Z3_ c k) [(c.length:Int)]=Z3_ c k ++ [(c.length:Int)]:=by
 have e:=J2_ (c:=c) x37_ k;have f:IsSet [(c.length:Int)]:=⟨List.pairwise_singleton _ _,fun x d=>by simp at d;subst d;exact ⟨x37_,x37_⟩⟩;have h3:IsSet (Z3_ c k ++ [(c.length:Int)]):=by
  refine ⟨List.pairwise_append.2 ⟨e.1.1,f.1,fun x d y g=>?_⟩,fun x d=>?_⟩
  ·simp at g
   subst g;exact (Vb8 d).2
  ·rcases List.mem_append.1 d with d | d
   ·exact e.1.2 x d
   ·exact f.2 x d
 refine IsSet.ext (A3_ _ _) h3 fun x=>?_;rw [Q1_ e.1 f,List.mem_append]
theorem Xo9:∀ (c:List Int),(∀ x,x<c.length→-1≤c.getD x 0)→posTo c c.length+(Z3_ c (-1)).length=c.length:=by
 intro c h;have d:∀ i,i≤c.length→posTo c i+(clsTo c (-1) i).length=i:=by
  intro i
  induction i with
  | zero=>intro _;rfl
  | succ i ih =>
   intro j;have f:=ih x37_;have g:=h i x37_;rw [Zl3 x37_,Zx0,List.length_append];by_cases e:c.getD i 0=-1
   ·rw [if_neg x37_,if_pos (beq_iff_eq.2 e)]
    simp;omega
   ·rw [if_pos x37_,if_neg (fun h=>e (beq_iff_eq.1 h))]
    simp;omega
 have:=d c.length (le_refl _)
 rwa [Zf6] at this
structure PreU (ms:List Mat) (n:Nat) (c:List Int):Prop where
 le:c.length≤n
 rng:∀ x,x<c.length→-1≤c.getD x 0∧c.getD x 0<(ms.length:Int)
 ind:∀ k:Nat,k<ms.length→indT (ms.getD k default) (Z3_ c (k:Int))=true
section Q
variable {ms:List Mat} {n:Nat} {c c':List Int}
theorem PreU.cls (h:PreU ms n c) (d:Several ms n) (hl:c.length=n):Cls ms c:=⟨d.many,fun k e=>by rw [hl];exact d.may k e,h.rng,h.ind⟩
theorem Xp0 (h:PreU ms n c) {z:Int} (d:-1≤z) (f:z<(ms.length:Int)):∀ x,x<(c ++ [z]).length→-1≤(c ++ [z]).getD x 0∧(c ++ [z]).getD x 0<(ms.length:Int):=fun x g=>by
 rw [List.length_append,show [z].length=1 from rfl] at g;by_cases e:x=c.length
 ·subst e
  rw [show (c ++ [z]).getD c.length 0=z by simp];exact ⟨d,f⟩
 ·rw [show (c ++ [z]).getD x 0=c.getD x 0 by simp only [List.getD_eq_getElem?_getD];rw [List.getElem?_append_left x37_]]
  exact h.rng x x37_
theorem PreU.out (h:PreU ms n c) (hl:c.length<n):PreU ms n (c ++ [-1]):=by
 refine ⟨by rw [List.length_append];exact hl,Xp0 h x37_ x37_,fun k d=>?_⟩;rw [Zl4,if_neg x37_,List.append_nil];exact h.ind k d
theorem PreU.put (h:PreU ms n c) (d:Several ms n) (hl:c.length<n) {k:Nat} (o:k<ms.length) (f:indT (ms.getD k default) (Y2_ (Z3_ c (k:Int)) [(c.length:Int)])=true):PreU ms n (c ++ [(k:Int)]):=by
 have m:=d.n64;refine ⟨by rw [List.length_append];exact hl,Xp0 h x37_ x37_,fun j g=>?_⟩;rw [Zl4];by_cases e:(k:Int)=(j:Int)
 ·rw [if_pos e]
  obtain rfl:k=j:=x37_;rw [← Zl5 x37_];exact f
 ·rw [if_neg e,List.append_nil]
  exact h.ind j g
theorem Yp5 (c:List Int) (g:Int→Int):∀ (K:Nat),g (-1)≤bestK ms c g K
 | 0=>Int.le_refl _
 | K+1=>by
  have:=Yp5 c g K;unfold bestK;split<;>omega
theorem Yq0 (c:List Int) (g:Int→Int) {k:Nat} (d:indT (ms.getD k default) (Y2_ (Z3_ c (k:Int)) [(c.length:Int)])=true):∀ (K:Nat),k<K→g (k:Int)≤bestK ms c g K
 | 0,h=>absurd h (Nat.not_lt_zero _)
 | K+1,h=>by
  by_cases e:k=K
  ·subst e
   rw [bestK,if_pos d];omega
  ·have:=Yq0 c g d K x37_
   rw [bestK];split<;>omega
theorem Za4 (c:List Int) (g:Int→Int):∀ (K:Nat),bestK ms c g K=g (-1)∨∃ k:Nat,k<K∧indT (ms.getD k default) (Y2_ (Z3_ c (k:Int)) [(c.length:Int)])=true∧bestK ms c g K=g (k:Int)
 | 0=>.inl rfl
 | K+1=>by
  have d:=Za4 c g K;rw [bestK];split
  ·rename_i hi
   rcases Int.le_total (bestK ms c g K) (g (K:Int)) with h | h
   ·exact .inr ⟨K,x37_,hi,x37_⟩
   ·rcases d with d | ⟨k,f,e,h3⟩
    ·exact .inl x37_
    ·exact .inr ⟨k,x37_,e,x37_⟩
  ·rcases d with d | ⟨k,f,e,h3⟩
   ·exact .inl d
   ·exact .inr ⟨k,x37_,e,h3⟩
theorem Yh0 (d:Several ms n):∀ (f:Nat) (c:List Int),PreU ms n c→c.length+f=n→∃ c',Cls ms c'∧c'.length=n∧allM ms f c=(n:Int) - ((Z3_ c' (-1)).length:Int)
 | 0,c,h,hl=>by
  have o:=Xo9 c fun x m=>(h.rng x m).1;refine ⟨c,h.cls d hl,hl,?_⟩;rw [allM];omega
 | f+1,c,h,hl=>by
  rw [allM];rcases Za4 (ms:=ms) c (fun z=>allM ms f (c ++ [z])) ms.length with e | ⟨k,j,g,e⟩
  ·rw [e]
   exact Yh0 d f _ (h.out x37_) j42_
  ·rw [e]
   exact Yh0 d f _ (h.put d x37_ j g) j42_
theorem Xj1 {c:List Int} {i:Nat} (h:i<c.length):c.take (i+1)=c.take i ++ [c.getD i 0]:=q22_
theorem Xp1 (h:Several ms n) (hc:Cls ms c') (r:c'.length=n):∀ (f:Nat) (i:Nat),i+f=n→(n:Int) - ((Z3_ c' (-1)).length:Int)≤allM ms f (c'.take i)
 | 0,i,hl=>by
  have m:=Xo9 c' fun x d=>(hc.rng x d).1;rw [allM,show c'.take i=c' from List.take_of_length_le x37_];omega
 | f+1,i,hl=>by
  have p:i<c'.length:=x37_;have B:=h.n64;have s:(c'.take i).length=i:=k39_;have g:=Xp1 h hc r f (i+1) x37_;rw [Xj1 p] at g;have A:=hc.rng i p;rw [allM];by_cases e:c'.getD i 0=-1
  ·rw [e] at g
   exact Int.le_trans g (Yp5 (ms:=ms) _ (fun z=>allM ms f (c'.take i ++ [z])) _)
  ·obtain ⟨k,q⟩:∃ k:Nat,c'.getD i 0=(k:Int):=⟨(c'.getD i 0).toNat,x37_⟩
   rw [q] at g A;have j:k<ms.length:=x37_;refine Int.le_trans g (Yq0 (ms:=ms) _ (fun z=>allM ms f (c'.take i ++ [z])) ?_ _ j);obtain ⟨o,u⟩:=h.may k j;have y:=J2_ (c:=c') x37_ (k:Int);have v:∀ x∈Y2_ (Z3_ (c'.take i) (k:Int)) [((c'.take i).length:Int)],x∈Z3_ c' (k:Int):=fun x d=>by
    rw [Zl5 x37_,s,List.mem_append] at d;rcases d with d | d
    ·obtain ⟨m,w⟩:=mem_class.1 d
     rw [s] at m;refine mem_class.2 ⟨x37_,?_⟩;rw [← w,List.getD_eq_getElem?_getD,List.getD_eq_getElem?_getD,List.getElem?_take_of_lt x37_]
    ·simp at d
     subst d;exact mem_class.2 ⟨x37_,by rw [Int.toNat_natCast];exact q⟩
   refine Vj0 (mayI_iff.2 ⟨o,by rw [u,← r];exact y⟩) (mayI_iff.2 ⟨o,⟨A3_ _ _,fun x d=>?_⟩⟩) v (hc.ind k j);have:=(mem_class.1 (v x d)).1;rw [u];omega
theorem Vb9 {u:List Int} (d:Several ms n) (o:MaxU ms n c u):allM ms n []=(n:Int) - ((Z3_ c (-1)).length:Int):=by
 obtain ⟨g,h,_,_,j⟩:=K6_ d o;obtain ⟨c2,e,f,q⟩:=Yh0 d n [] ⟨Nat.zero_le _,fun x p=>absurd p (Nat.not_lt_zero _),fun k m=>Xi3 (d.may k m).1⟩ j37_;have b:=Xp1 d g h n 0 x37_;rw [List.take_zero] at b;have:=j c2 e f;omega
theorem Zs3 (d:Several ms n):∀ (f:Nat) (c:List Int),c.length+f=n→0≤allM ms f c∧allM ms f c≤64
 | 0,c,hl=>by
  have g:=Yp4 c c.length;have h:=d.n64;rw [allM];omega
 | f+1,c,hl=>by
  rw [allM];rcases Za4 (ms:=ms) c (fun z=>allM ms f (c ++ [z])) ms.length with e | ⟨k,m,j,e⟩
  ·rw [e]
   exact Zs3 d f _ j42_
  ·rw [e]
   exact Zs3 d f _ j42_
end Q
theorem Xp2 (w:World) (_c:List Int):(w.alloc (.cells #[] 3)).ownsRow w.heap.size 3 1 (.slice (some ⟨w.heap.size,0,none⟩) 0 0) ([]:List Int).length (ints []) :=
 World.ownsRow_made w #[] 0 (le_refl _) z38_ rfl
def AllAt (ms:List Mat) (n f:Nat):Prop:=∀ (c:List Int) (vl vc:Value) (w:World),MatL w w.heap.size vl ms→Row w w.heap.size vc c→c.length+f=n→Calls Tryz.prog 22 #[vl,vc] w (Tells w (allM ms f c))
theorem Vc0 {ms:List Mat} {n:Nat} (d:Several ms n) (hs:∀ m∈ms,Sml m):AllAt ms n 0:=by
 intro c vl vc w hl e s;have r:c.length=n:=s;clear s;have J:=hid hl;have C:=hid e;obtain ⟨v,U⟩:=d.many;obtain ⟨ad,O,x4,x0,rfl,_,hcl0⟩:=MatL.one hl v;obtain ⟨I,N,rfl,-⟩:=id e;have Q:=d.n64;have hea:ad.add (0 * 6)=ad:=q40_;have hnz:(ms.getD 0 default).n=(n:Int):=by
  obtain ⟨F,P⟩:=d.may 0 v;have:=Z7_ F;omega
 have E:Hid (∀ W,Below w.heap.size w W→W.cell? ⟨ad.block,ad.off+1,none⟩=some (.int .i64 n)):=hid fun W hW=>j22_;have T:(0:Int)<(ms.length:Int):=x37_;have V:(ms.length:Int)≤8:=x37_;have R:(c.length:Int)≤64:=x37_;have K:=hid d;have L:=hid hs;have q1:=E.out w (Below.refl _ _);have D:Hid (allM ms 0 c=(posTo c c.length:Int)):=hid (by rw [allM]);rw [← r] at q1;rw [D.out];clear hl e hcl0 hea hnz r hs d
 go_enter Tryz.func22,Tryz.ntmps22
 go_wp2_with fail
 go_loopw [5,6] (fun vn g wr=>∃ x:Nat,g=.int .i64 x∧vn=.int .i64 (posTo c x)∧x≤c.length∧Below w.heap.size w wr) (fun _ g _=>c.length - (intOf g).toNat)
 case atStart=>exact ⟨0,rfl,rfl,Nat.zero_le _,Below.refl _ _⟩
 case round =>
  obtain ⟨x,rfl,rfl,Y,o⟩:=hrel;have HBr:=hid o;clear o q1;by_cases u:x<c.length
  ·have S:(x:Int)<(c.length:Int):=by omega
   obtain ⟨M,G,q⟩:=C.out.nth u;subst G;have q0:=q wr HBr.out;have hnx:=Zl3 u;have H:=Yp4 c x;obtain ⟨z,B⟩:∃ z,c.getD x 0=z:=⟨_,rfl⟩;rw [B] at q0 hnx;obtain ⟨p,hp⟩:∃ p,posTo c x=p:=⟨_,rfl⟩;rw [hp] at hnx H ⊢;have X:IntKind.i64.wrap ((p:Int)+1)=(p:Int)+1:=q38_;clear q B;by_cases k:0≤z
   ·rw [if_pos k] at hnx
    exact q12_
   ·rw [if_neg k] at hnx
    exact q12_
  ·have y:x=c.length:=by omega
   have Z:¬ (x:Int)<(c.length:Int):=x37_;have j:Hid (posTo c x=posTo c c.length):=hid (by rw [y]);obtain ⟨p,hp⟩:∃ p,posTo c x=p:=⟨_,rfl⟩;rw [hp] at j ⊢;clear y hp;go_wp2;go_ret;exact ⟨by rw [← j.out];rfl,HBr.out⟩
theorem Vc1 {ms:List Mat} {n f:Nat} (x:Several ms n) (hs:∀ m∈ms,Sml m) (ih:AllAt ms n f):AllAt ms n (f+1):=by
 intro c vl vc w hl hr xi;have R:=hid hl;have S:=hid hr;obtain ⟨xj,y6⟩:=x.many;obtain ⟨ad,dl,yb,ya,rfl,_,hcl0⟩:=MatL.one hl xj;obtain ⟨Ac,cc,rfl,-⟩:=id hr;have y3:=x.n64;have hea:ad.add (0 * 6)=ad:=q40_;have hnz:(ms.getD 0 default).n=(n:Int):=by
  obtain ⟨h1,h2⟩:=x.may 0 xj;have:=Z7_ h1;omega
 have xr:Hid (∀ W,Below w.heap.size w W→W.cell? ⟨ad.block,ad.off+1,none⟩=some (.int .i64 n)):=hid fun W hW=>j22_;have y5:(0:Int)<(ms.length:Int):=x37_;have y7:(ms.length:Int)≤8:=x37_;have y4:(c.length:Int)≤64:=x37_;have HS:=hid x;have xt:=hid hs;have q1:=xr.out w (Below.refl _ _);have y8:¬ (c.length:Int)=(n:Int):=x37_;have y9:¬ c.length=n:=x37_;have xb:=hid xi;have Ih:=hid ih;have N:∀ z,0≤allM ms f (c ++ [z])∧allM ms f (c ++ [z])≤64:=fun z=>Zs3 x f _ j42_;have y2:=hid N;obtain ⟨g,hg⟩:∃ g:Int→Int,(fun z=>allM ms f (c ++ [z]))=g:=⟨_,rfl⟩;have M:Hid (∀ z,allM ms f (c ++ [z])=g z):=hid fun z=>by rw [← hg]
 have xs:Hid (allM ms (f+1) c=bestK ms c g ms.length):=hid (by rw [allM,hg]);have y1:Hid (∀ K,0≤bestK ms c g K∧bestK ms c g K≤64):=hid fun K=>by
  rcases Za4 (ms:=ms) c g K with e | ⟨k,_,_,e⟩
  ·rw [e,← M.out];exact N _
  ·rw [e,← M.out];exact N _
 rw [xs.out];clear hl hr hcl0 hea hnz hs x xi ih N hg
 go_enter Tryz.func22,Tryz.ntmps22
 have u:=Xp2 w c;have p:Hid (Below w.heap.size w (w.alloc (.cells #[] 3))):=hid ((Below.refl _ w).alloc (le_refl _) _);have E:=hid (S.out.up p.out)
 go_wp2_with (at_builtin;refine Z5_ rfl _ _ rfl w.heap.size _ _ _ [] c rfl rfl u E.out j37_ x37_ j37_ ?_)
 intro xx xn j H;have o:Below w.heap.size w xn:=p.out.grown H j37_ (fun i s=>(World.ownsRow.lt u i s).1);have j:xn.ownsRow w.heap.size 3 1 xx c.length (ints c):=by simpa using j
 have r:=hid j;have Hb1:=hid o;clear u p E j H o
 go_wp2_with (at_builtin;refine Z5_ rfl _ _ rfl w.heap.size _ _ _ c [(-1)] rfl rfl (r.out.alloc _) (Row.lit1 _ (-1)) x37_ j37_ q45_ ?_)
 intro yc xz J I;have G:Below w.heap.size w xz:=(Hb1.out.alloc Hb1.out.size _).grown I q45_ (fun i s=>(World.ownsRow.lt r.out i s).1);have q:=hid G;have F:=hid (Row.of_own J j37_);clear J I G r Hb1
 go_wp2_with fail
 refine (Ih.out (c ++ [-1]) _ _ _ (R.out.up q.out) F.out (by have:=xb.out;rw [List.length_append];simp;omega)).mono ?_;rintro e w1 ⟨rfl,o⟩;rw [M.out];have x7:=hid (Z0_ q.out (le_refl _) o);clear o F q q1
 go_wp2_with fail
 go_loopw [7,8,9] (fun vb vk _ wr=>∃ (k:Nat) (b:Int),vk=.int .i64 k∧vb=.int .i64 b∧b=bestK ms c g k∧k≤ms.length∧Below w.heap.size w wr) (fun _ vk _ _=>ms.length - (intOf vk).toNat)
 case atStart=>exact ⟨0,_,rfl,rfl,rfl,Nat.zero_le _,x7.out⟩
 case round =>
  clear x7;obtain ⟨k,b,rfl,rfl,hb,hk,xg⟩:=hrel;have Q:=hid xg;have L:=hid hb;clear xg hb;by_cases hlt:k<ms.length
  ·have xw:(k:Int)<(ms.length:Int):=by omega
   have xq:=hid (S.out.up Q.out)
   go_wp2_with fail
   refine (B3_ _ c (k:Int) _ xq.out x37_).mono ?_;rintro e O ⟨v3,rfl,xl,xc⟩;have x8:=hid xl;have xp:=hid (Z0_ Q.out (le_refl _) xc);obtain ⟨A3,c3,rfl,-⟩:=xl;have xv:=H2_ c (k:Int);have x9:=hid (Row.here (Row.lit1 O (c.length:Int)));have V:Hid (Below O.heap.size O (O.alloc (.cells #[.int .i64 (c.length:Int)] 3))):=hid ((Below.refl _ _).alloc (le_refl _) _);clear xc
   go_wp2_with fail
   refine (H6_ _ _ (Z3_ c (k:Int)) [(c.length:Int)] _ (x8.out.up V.out) x9.out x37_ j37_).mono ?_;rintro e w4 ⟨v4,rfl,xm,xd⟩;have U:=hid xm;have D:=hid (Z0_ xp.out (le_refl _) (Z0_ V.out (le_refl _) xd));clear xm xd x9 V x8;obtain ⟨xu,d2,lv,iv,hA,x4,Z⟩:=MatL.one R.out hlt;obtain rfl:ad=xu:=Option.some.inj (Value.slice.inj hA).1;have xk:ms.getD k default∈ms:=z39_;have x5:=xt.out _ xk;have C:bestK ms c g (k+1)=if indT (ms.getD k default) (Y2_ (Z3_ c (k:Int)) [(c.length:Int)])=true then max (bestK ms c g k) (g (k:Int)) else bestK ms c g k:=rfl
   obtain ⟨m,hm⟩:∃ m,ms.getD k default=m:=⟨_,rfl⟩;rw [hm] at x4 Z x5 C;obtain ⟨q0,q1,q2,q3,q4,q5⟩:=Z w4 D.out;have x0:=Zl1 m _ v4 (Y2_ (Z3_ c (k:Int)) [(c.length:Int)]) w4 (x4.up D.out) x5 U.out;obtain ⟨Y,xf⟩:∃ Y,indT m (Y2_ (Z3_ c (k:Int)) [(c.length:Int)])=Y:=⟨_,rfl⟩;rw [xf] at C x0;have X:=hid x0;have T:=hid (S.out.up D.out);clear hA xk x5 hm x4 Z xf x0 xv;cases Y with
   | false =>
    have v:=hid (C.trans (if_neg x38_));clear C
    go_wp2_with fail
    refine X.out.mono ?_;rintro e d ⟨rfl,B⟩;have P:=hid (Z0_ D.out (le_refl _) B);clear B q0 q1 q2 q3 q4 q5 U T;go_wp2
    go_roundw
    case rel=>exact ⟨k+1,b,y38_,rfl,by rw [v.out];exact L.out,x37_,P.out⟩
    exact mz_
   | true =>
    have v:=hid (C.trans (if_pos rfl));clear C
    go_wp2_with fail
    refine X.out.mono ?_;rintro e d ⟨rfl,B⟩;have x6:=hid (Z0_ D.out (le_refl _) B);have xa:=hid (T.out.up B);clear B q0 q1 q2 q3 q4 q5 U T X;have u:=Xp2 d c;have p:Hid (Below d.heap.size d (d.alloc (.cells #[] 3))):=hid ((Below.refl _ d).alloc (le_refl _) _);have E:=hid (xa.out.up p.out)
    go_wp2_with (at_builtin;refine Z5_ rfl _ _ rfl d.heap.size _ _ _ [] c rfl rfl u E.out j37_ x37_ j37_ ?_)
    intro xy xo j H;have o:Below d.heap.size d xo:=p.out.grown H j37_ (fun i s=>(World.ownsRow.lt u i s).1);have j:xo.ownsRow d.heap.size 3 1 xy c.length (ints c):=by simpa using j
    have r:=hid j;have Hb1:=hid o;clear u p E j H o
    go_wp2_with (at_builtin;refine Z5_ rfl _ _ rfl d.heap.size _ _ _ c [(k:Int)] rfl rfl (r.out.alloc _) (Row.lit1 _ (k:Int)) x37_ j37_ q45_ ?_)
    intro yd y0 J I;have G:Below d.heap.size d y0:=(Hb1.out.alloc Hb1.out.size _).grown I q45_ (fun i s=>(World.ownsRow.lt r.out i s).1);have q:=hid G;have F:=hid (Row.of_own J j37_);clear J I G r Hb1
    go_wp2_with fail
    refine (Ih.out (c ++ [(k:Int)]) _ _ _ (R.out.up (Z0_ x6.out (le_refl _) q.out)) F.out (by have:=xb.out;rw [List.length_append];simp;omega)).mono ?_;rintro e w8 ⟨rfl,xe⟩;rw [M.out];have P:=hid (Z0_ x6.out (le_refl _) (Z0_ q.out (le_refl _) xe));obtain ⟨y,hy⟩:∃ y,g (k:Int)=y:=⟨_,rfl⟩;rw [hy] at v ⊢;rw [← L.out] at v;obtain ⟨t,ht⟩:∃ t,max b y=t:=⟨_,rfl⟩;rw [ht] at v;clear xe F q hy xa;go_wp2
    go_roundw
    case rel=>exact ⟨k+1,t,y38_,by first | rfl | (rw [← ht];rfl) | simp [← ht],v.out.symm,x37_,P.out⟩
    exact mz_
  ·have xh:k=ms.length:=by omega
   have xw:¬ (k:Int)<(ms.length:Int):=x37_;have He:Hid (bestK ms c g ms.length=b):=hid (by rw [← xh];exact L.out.symm);clear xh L;go_wp2;go_ret;exact ⟨by rw [He.out];rfl,Q.out⟩
theorem Yp6 {ms:List Mat} {n:Nat} (c:Several ms n) (hs:∀ m∈ms,Sml m):∀ f,AllAt ms n f
 | 0=>Vc0 c hs
 | f+1=>Vc1 c hs (Yp6 c hs f)
end Go.Proofs.YtheeajnkiniopaaGreatDoor.Wp
