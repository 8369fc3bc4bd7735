/- The document's own independence, kind by kind, plain: when a rank is as great as a set (VInd). -/
import Derived.Test.YtheeajnkiniopaaGreatDoorVReach
import Derived.Test.YtheeajnkiniopaaGreatDoorZI
import Derived.Test.YtheeajnkiniopaaGreatDoorUAdj
import Derived.Test.YtheeajnkiniopaaGreatDoorZW
import Derived.Test.YtheeajnkiniopaaGreatDoorX0A
namespace Go.Proofs.YtheeajnkiniopaaGreatDoor.Wp
open Go Go.RowKit
section
variable {n:Nat} {f:(Nat→Bool)→Nat} {I:List Int→Bool}
theorem Xl5 (e:n≤64) {x:Int} (d:0≤x∧x<(n:Int)):InN n [x]:=⟨⟨z40_,fun z c=>by rw [List.mem_singleton.1 c];exact ⟨q40_,q40_⟩⟩,fun z c=>by rw [List.mem_singleton.1 c];exact d⟩
theorem Xl6 (c:n≤64) {out:List Int} {x:Int} (ho:InN n out) (d:0≤x∧x<(n:Int)) (hlt:∀ y∈out,y<x):Y1_ out [x]=out ++ [x]:=by
 have h1:=Xl5 c d;refine IsSet.ext (D9_ _ _) ⟨?_,fun y hy=>?_⟩ fun y=>?_
 ·exact j22_
 ·exact k26_
 ·rw [A6_ ho.1 h1.1,List.mem_append]
theorem Zf9 (h:Rk n f) (g:n≤64) (hI:∀ t,InN n t→(I t=true↔f (memP t)=t.length)):∀ (r out:List Int),InN n out→InN n r→(∀ y∈out,∀ z∈r,y<z)→f (memP out)=out.length →
  InN n (baseL I out r)∧(∀ y∈out,y∈baseL I out r)∧(∀ y∈baseL I out r,y∈out∨y∈r)∧f (memP (baseL I out r))=(baseL I out r).length∧∀ y∈r,f (insP (memP (baseL I out r)) y.toNat)=f (memP (baseL I out r))
 | [],out,ho,_,_,hf=>⟨ho,fun _ h=>h,fun _ h=>.inl h,hf,fun _ h=>absurd h z40_⟩
 | x :: r,out,ho,hr,hlt,hf=>by
  have u:=hr.2 x z40_;have B:InN n r:=⟨⟨(List.pairwise_cons.1 hr.1.1).2,fun y hy=>hr.1.2 y k44_⟩,fun y hy=>hr.2 y k44_⟩;have F:∀ z∈r,x<z:=(List.pairwise_cons.1 hr.1.1).1;have s:=Xl6 g ho u fun y hy=>hlt y hy x z40_;have v:=Xl5 g u;have A:InN n (out ++ [x]):=by rw [← s];exact E0_ ho v
  have D:memP (out ++ [x])=insP (memP out) x.toNat:=by rw [← s,I3_ ho.1 v.1,Zp8 u.1]
  have w:=hI _ A;rw [baseL,s];by_cases hb:I (out ++ [x])=true
  ·rw [if_pos hb]
   obtain ⟨m,d,o,p,q⟩:=Zf9 h g hI r (out ++ [x]) A B (fun y hy z k=>by
    rcases List.mem_append.1 hy with hy | hy
    ·exact hlt y hy z (by simp [k])
    ·rw [List.mem_singleton.1 hy];exact F z k) (w.1 hb)
   refine ⟨m,fun y hy=>d y k44_,fun y hy=>?_,p,fun y hy=>?_⟩
   ·rcases o y hy with c | c
    ·rcases List.mem_append.1 c with c | c
     ·exact .inl c
     ·exact .inr (by rw [List.mem_singleton.1 c];simp)
    ·exact .inr (by simp [c])
   ·rcases List.mem_cons.1 hy with rfl | hy
    ·rw [H8_ (memP_iff.2 (by rw [show ((y.toNat:Nat):Int)=y by omega];exact d y z40_))]
    ·exact q y hy
  ·rw [if_neg hb]
   obtain ⟨m,d,o,p,q⟩:=Zf9 h g hI r out ho B (fun y hy z k=>hlt y hy z (by simp [k])) hf;refine ⟨m,d,fun y hy=>?_,p,fun y hy=>?_⟩
   ·rcases o y hy with c | c
    ·exact .inl c
    ·exact .inr (by simp [c])
   ·rcases List.mem_cons.1 hy with rfl | hy
    ·have j:y.toNat<n:=by omega
     have C:¬ f (memP (out ++ [y]))=(out ++ [y]).length:=fun e=>hb (w.2 e);rw [D,List.length_append,List.length_singleton] at C;have G:=h.up' (memP out) j;have H:=h.one' (memP out) j;have J:=h.dim_set (P:=memP out) (Q:=memP (baseL I out r)) (fun i _ E=>memP_iff.2 (d _ (memP_iff.1 E))) j;have K:=h.up' (memP (baseL I out r)) j;omega
    ·exact q y hy
theorem O8_ (h:Rk n f) (r:n≤64) (hI:∀ t,InN n t→(I t=true↔f (memP t)=t.length)) {s:List Int} (hs:InN n s) :
  InN n (baseL I [] s)∧(∀ y∈baseL I [] s,y∈s)∧(baseL I [] s).length=f (memP s)∧f (memP (baseL I [] s))=(baseL I [] s).length∧∀ Q,f (orP Q (memP (baseL I [] s)))=f (orP Q (memP s)):=by
 obtain ⟨m,_,o,p,q⟩:=Zf9 h r hI s [] (Xd2 n) hs (fun y c=>absurd c z40_) (by rw [Zj4,h.zero];rfl);have j:∀ y∈baseL I [] s,y∈s:=fun y c=>(o y c).resolve_left z40_;have d:∀ Q,f (orP Q (memP (baseL I [] s)))=f (orP Q (memP s)):=fun Q=>by
  have g:=h.closed (orP Q (memP (baseL I [] s))) (memP s) (fun x k v=>by
   have e:=q x (memP_iff.1 v);rw [Int.toNat_natCast] at e;have w:=h.dim_set (P:=memP (baseL I [] s)) (Q:=orP Q (memP (baseL I [] s))) (fun i _ u=>by unfold orP;rw [u];simp) k;have z:=h.up' (orP Q (memP (baseL I [] s))) k;omega) n (Nat.le_refl _)
  rw [D5_ h] at g;rw [← g];refine h.ext fun i _=>?_;unfold orP;cases hq:Q i
  ·cases hb:memP (baseL I [] s) i
   ·rfl
   ·have:=memP_iff.2 (j _ (memP_iff.1 hb))
    rw [this];rfl
  ·rfl
 refine ⟨m,j,?_,p,d⟩;have:=d noneP;rw [show orP noneP (memP (baseL I [] s))=memP (baseL I [] s) from rfl,show orP noneP (memP s)=memP s from rfl] at this;omega
end
theorem Xl7 {g h:Nat→Nat}:∀ {k:Nat},(∀ c,c<k→g c≤h c)→sumN g k≤sumN h k
 | 0,_=>Nat.le_refl _
 | k+1,e=>by
  rw [sumN,sumN];have:=Xl7 (g:=g) (h:=h) (k:=k) fun c hc=>e c q40_;have:=e k q40_;omega
theorem Xl8 {g h:Nat→Nat}:∀ {k:Nat},(∀ c,c<k→g c≤h c)→sumN g k=sumN h k→∀ c,c<k→g c=h c
 | 0,_,_,c,hc=>by omega
 | k+1,e,he,c,hc=>by
  rw [sumN,sumN] at he;have f:=Xl7 (g:=g) (h:=h) (k:=k) fun c hc=>e c q40_;have j:=e k q40_;by_cases d:c=k
  ·rw [d];omega
  ·exact Xl8 (k:=k) (fun c hc=>e c q40_) q40_ c q40_
theorem Vn5 {A n:Nat} {cls:Nat→Nat} (hc:∀ i,i<n→cls i<A) (P:Nat→Bool):sumN (clsN n cls P) A=cnt P n:=by
 have h:=(Yc9 (A:=A) (n:=n) (cls:=cls) (most:=fun _=>n) hc);have e:partR A n cls (fun _=>n) P=sumN (clsN n cls P) A:=U2_ fun c _=>Nat.min_eq_right (by unfold clsN;exact A3_ _ _);rw [← e];have m:∀ k,k≤n→partR A n cls (fun _=>n) (addK noneP P k)=cnt (addK noneP P k) n:=fun k=>by
  induction k with
  | zero=>intro _;rw [G6_,h.zero,F4_]
  | succ k d =>
   intro o;have d:=d q40_;cases hp:P k
   ·rw [R9_ hp];exact d
   ·have j:addK noneP P k k=false:=by simp [addK,noneP]
    have c1:=A5_ (n:=n) (by omega:k<n) j;have c2:=A3_ (insP (addK noneP P k) k) n;have c3:clsN n cls (addK noneP P k) (cls k)≤cnt (addK noneP P k) n:=(C2_ n).mono (P:=fun i=>addK noneP P k i && cls i==cls k) fun i _ g=>by
     rw [Bool.and_eq_true] at g;exact g.1
    rw [L4_ hp,Yy3 (hc k q40_) q40_ j,if_pos q40_,c1,d]
 have f:=m n (Nat.le_refl _);rw [D5_ h,D5_ (C2_ n)] at f;exact f
theorem Vj3 {A n:Nat} {cls most:Nat→Nat} (hc:∀ i,i<n→cls i<A) (P:Nat→Bool):partR A n cls most P=cnt P n↔∀ c,c<A→clsN n cls P c≤most c:=by
 rw [← Vn5 hc P];constructor
 ·intro h c d
  have:=Xl8 (g:=fun c=>min (most c) (clsN n cls P c)) (h:=clsN n cls P) (fun c _=>Nat.min_le_right _ _) h c d;have this:min (most c) (clsN n cls P c)=clsN n cls P c:=this;omega
 ·intro h
  exact U2_ fun c d=>Nat.min_eq_right (h c d)
theorem Vj4 {n:Nat} {cl s:List Int} (hs:InN n s) (e:∀ i,i<n→0≤cl.getD i 0) (c:Nat):cntC cl s (c:Int)=clsN n (fun i=>(cl.getD i 0).toNat) (memP s) c:=by
 have f:InN n (s.filter fun x=>cl.getD x.toNat 0==(c:Int)):=⟨⟨hs.1.1.filter _,fun x d=>hs.1.2 x (List.mem_filter.1 d).1⟩,fun x d=>hs.2 x (List.mem_filter.1 d).1⟩;unfold cntC;rw [X3_ f];unfold clsN;refine N7_ fun i g=>?_;have h:=e i g;rw [Bool.eq_iff_iff,memP_iff,List.mem_filter,Bool.and_eq_true,memP_iff,beq_iff_eq,beq_iff_eq,Int.toNat_natCast];constructor
 ·rintro ⟨a,b⟩
  refine ⟨a,?_⟩;show (cl.getD i 0).toNat=c;omega
 ·rintro ⟨a,b⟩
  have b:(cl.getD i 0).toNat=c:=b;exact ⟨a,q40_⟩
inductive SDR (l:List (List Int)):List Int→List Int→Prop
 | nil:SDR l [] []
 | cons {x r:Int} {s rs:List Int}:r∈l.getD x.toNat []→r∉rs→SDR l s rs→SDR l (x :: s) (r :: rs)
theorem Zy6 {l:List (List Int)} (hl:∀ i,IsSet (l.getD i [])):∀ {s d:List Int},IsSet d→(F3_ l s d=true↔∃ rs,SDR l s rs∧∀ r∈rs,r∉d)
 | [],d,_=>⟨fun _=>⟨[],.nil,fun r f=>absurd f z40_⟩,fun _=>rfl⟩
 | x :: s,d,hu=>by
  rw [F3_,List.any_eq_true];have j:∀ r∈l.getD x.toNat [],IsSet [r]:=fun r f=>⟨z40_,fun z o=>by rw [List.mem_singleton.1 o];exact (hl _).2 r f⟩;constructor
  ·rintro ⟨r,f,m⟩
   obtain ⟨a,b⟩:=(X5_ (hl _) hu r).1 f;obtain ⟨rs,g,e⟩:=(Zy6 hl (D9_ _ _)).1 m;have k:∀ q∈rs,q∉d∧q≠r:=fun q c=>⟨fun h=>e q c ((A6_ hu (j r a) q).2 (.inl h)),fun h=>e q c ((A6_ hu (j r a) q).2 (.inr (by simp [h])))⟩;refine ⟨r :: rs,.cons a (fun h=>(k r h).2 rfl) g,fun q c=>?_⟩;rcases List.mem_cons.1 c with rfl | c
   ·exact b
   ·exact (k q c).1
  ·rintro ⟨rs,g,e⟩
   cases g with
   | cons a b g =>
    rename_i r rs
    refine ⟨r,(X5_ (hl _) hu r).2 ⟨a,e r z40_⟩,(Zy6 hl (D9_ _ _)).2 ⟨rs,g,fun q c h=>?_⟩⟩;rcases (A6_ hu (j r a) q).1 h with h | h
    ·exact e q (by simp [c]) h
    ·rw [List.mem_singleton.1 h] at c
     exact b c
theorem Xl9 {n R:Nat} {g:Nat→Nat→Prop} {P:Nat→Bool} {x:Nat} (D:x<n) (z:∀ r,g x r→r<R) (I:covR n R g P≤cnt P n) (h:covR n R g (insP P x)=cnt P n+1):∃ r,g x r∧covR n R (fun i q=>g i q∧q≠r) P=cnt P n:=by
 refine Classical.byContradiction fun u=>?_;have u:∀ r,g x r→covR n R (fun i q=>g i q∧q≠r) P≠cnt P n:=fun r s e=>u ⟨r,s,e⟩;have C:∀ A B,CovP n g P A B→cnt P n≤cnt A n+cnt B R:=fun A B hc=>by
  have F:=L5_ (R:=R) ⟨A,B,hc,Nat.le_refl _⟩;have G:=(Zw1 n R g).one' P D;omega
 have E:∀ k,k≤R→∃ A B,CovP n g P A B∧cnt A n+cnt B R≤cnt P n∧∀ r,r<k→g x r→B r=true:=fun k=>by
  induction k with
  | zero=>exact fun _=>⟨P,noneP,fun i r _ d _=>.inl d,by rw [F4_];exact Nat.le_refl _,fun r s=>by omega⟩
  | succ k ih =>
   intro J;obtain ⟨A,B,hc,hs,p⟩:=ih q40_;by_cases w:g x k
   ·obtain ⟨o,m,y,hs'⟩:=H2_ n R (fun i q=>g i q∧q≠k) P
    have K:covR n R (fun i q=>g i q∧q≠k) P≤cnt P n:=(Zw1 n R _).le_cnt P;have L:=u k w;have v:CovP n g P o (insP m k):=fun i r f d c=>by
     by_cases e:r=k
     ·rw [e,V0_];exact .inr rfl
     ·rw [X8_ e];exact y i r f d ⟨c,e⟩
    have H:=(C2_ R).one' m (show k<R by omega);have c2:=C (orP A o) (andP B (insP m k)) fun i r f d c=>by
     unfold orP andP;rcases hc i r f d c with e | e
     ·exact .inl (by rw [e];rfl)
     ·rcases v i r f d c with j | j
      ·exact .inl (by rw [j,Bool.or_true])
      ·exact .inr (by rw [e,j];rfl)
    have M:=(C2_ n).submod A o;have N:=(C2_ R).submod B (insP m k);refine ⟨andP A o,orP B (insP m k),fun i r f d c=>?_,?_,fun r s c=>?_⟩
    ·unfold orP andP
     rcases hc i r f d c with e | e
     ·rcases v i r f d c with j | j
      ·exact .inl (by rw [e,j];rfl)
      ·exact .inr (by rw [j,Bool.or_true])
     ·exact .inr (by rw [e];rfl)
    ·omega
    ·unfold orP
     by_cases e:r=k
     ·rw [e,V0_,Bool.or_true]
     ·rw [p r q40_ c];rfl
   ·exact ⟨A,B,hc,hs,fun r s c=>p r (by
     rcases Nat.lt_or_ge r k with h | h
     ·exact h
     ·exact absurd (show g x k by rw [show k=r by omega];exact c) w) c⟩
 obtain ⟨A,B,hc,hs,p⟩:=E R (Nat.le_refl _);have:=L5_ (n:=n) (R:=R) (g:=g) (P:=insP P x) (k:=cnt P n) ⟨A,B,fun i r f d c=>by
  by_cases e:i=x
  ·rw [e] at c;exact .inr (p r (z r c) c)
  ·rw [X8_ e] at d;exact hc i r f d c,hs⟩
 omega
theorem Vj5 {n:Nat} {x:Int} {s:List Int} (h:InN n (x :: s)):InN n s∧0≤x∧x<(n:Int)∧memP s x.toNat=false∧memP (x :: s)=insP (memP s) x.toNat:=by
 have d:=h.2 x z40_;have c:=List.pairwise_cons.1 h.1.1;refine ⟨⟨⟨c.2,fun y hy=>h.1.2 y k44_⟩,fun y hy=>h.2 y k44_⟩,d.1,d.2,?_,?_⟩
 ·rw [← Bool.not_eq_true,memP_iff,show ((x.toNat:Nat):Int)=x by omega]
  exact fun f=>by have:=c.1 x f;omega
 ·funext i
  rw [Bool.eq_iff_iff,memP_iff];unfold insP;rw [Bool.or_eq_true,beq_iff_eq,memP_iff,List.mem_cons];constructor
  ·rintro (e | e)
   ·exact .inl q40_
   ·exact .inr e
  ·rintro (e | e)
   ·exact .inl q40_
   ·exact .inr e
theorem Vc9 {l:List (List Int)} {n R:Nat} (j:∀ (i r:Nat),(r:Int)∈l.getD i []→r<R):∀ {s U:List Int},InN n s→covR n R (fun i r=>(r:Int)∈l.getD i []∧(r:Int)∉U) (memP s)=s.length→∃ rs,SDR l s rs∧∀ r∈rs,r∉U
 | [],U,_,_=>⟨[],.nil,fun r f=>absurd f z40_⟩
 | x :: s,U,hs,h=>by
  obtain ⟨g,w,h3,y,m⟩:=Vj5 hs;have v:x.toNat<n:=q40_;rw [m,List.length_cons,X3_ g] at h;obtain ⟨r,⟨o,p⟩,f⟩:=Xl9 v (fun r f=>j _ r f.1) ((Zw1 n R _).le_cnt _) h;have e:(fun (i q:Nat)=>((q:Int)∈l.getD i []∧(q:Int)∉U)∧q≠r)=fun (i q:Nat)=>(q:Int)∈l.getD i []∧(q:Int)∉(r:Int) :: U:=by
   funext i q
   refine propext ⟨fun ⟨⟨a,b⟩,c⟩=>⟨a,fun d=>?_⟩,fun ⟨a,b⟩=>⟨⟨a,fun d=>b (by simp [d])⟩,fun e=>b (by simp [e])⟩⟩;rcases List.mem_cons.1 d with e | e
   ·exact c q40_
   ·exact b e
  rw [e,← X3_ g] at f;obtain ⟨rs,u,k⟩:=Vc9 j g f;refine ⟨(r:Int) :: rs,.cons o (fun hm=>k _ hm z40_) u,fun q d=>?_⟩;rcases List.mem_cons.1 d with rfl | d
  ·exact p
  ·exact fun hm=>k q d q50_
theorem Yj3 {l:List (List Int)} {A B:Nat→Bool}:∀ {s rs:List Int},SDR l s rs→(∀ x∈s,∀ r∈l.getD x.toNat [],A x.toNat=true∨B r.toNat=true)→s.length≤(s.filter fun x=>A x.toNat).length+(rs.filter fun r=>B r.toNat).length
 | _,_,.nil,_=>Nat.le_refl _
 | _,_,.cons (x:=x) (r:=r) (s:=s) (rs:=rs) a b hrs,h=>by
  have c:=Yj3 hrs fun y hy=>h y k44_;rw [List.filter_cons,List.filter_cons,List.length_cons];rcases h x z40_ r a with e | e
  ·exact x26_
  ·exact x26_
theorem Yj4 {l:List (List Int)} {R:Nat} (d:∀ (i:Nat) (r:Int),r∈l.getD i []→0≤r∧r<(R:Int)):∀ {s rs:List Int},SDR l s rs→rs.Nodup∧∀ r∈rs,0≤r∧r<(R:Int)
 | _,_,.nil=>⟨List.nodup_nil,fun r g=>absurd g z40_⟩
 | _,_,.cons a b hrs=>by
  obtain ⟨e,f⟩:=Yj4 d hrs;refine ⟨List.nodup_cons.2 ⟨b,e⟩,fun q c=>?_⟩;rcases List.mem_cons.1 c with rfl | c
  ·exact d _ _ a
  ·exact f q c
theorem Xm0 {l:List (List Int)} {n R:Nat} {s:List Int} (hl:∀ i,IsSet (l.getD i [])) (f:∀ (i:Nat) (r:Int),r∈l.getD i []→0≤r∧r<(R:Int)) (hs:InN n s):F3_ l s []=true↔covR n R (fun i r=>(r:Int)∈l.getD i []) (memP s)=s.length:=by
 rw [Zy6 hl J0_];constructor
 ·rintro ⟨rs,e,-⟩
  have g:=(Zw1 n R (fun i r=>(r:Int)∈l.getD i [])).le_cnt (memP s);rw [← X3_ hs] at g;refine Nat.le_antisymm g ?_;obtain ⟨A,B,hc,v⟩:=H2_ n R (fun i r=>(r:Int)∈l.getD i []) (memP s);have p:=Yj3 (A:=A) (B:=B) e fun x d r c=>by
   have y:=hs.2 x d;have w:=f _ r c;exact hc x.toNat r.toNat q40_ (memP_iff.2 (by rw [show ((x.toNat:Nat):Int)=x by omega];exact d)) (show ((r.toNat:Nat):Int)∈l.getD x.toNat [] by rw [show ((r.toNat:Nat):Int)=r by omega];exact c)
  obtain ⟨m,o⟩:=Yj4 f e;have u:(s.filter fun x=>A x.toNat).length≤cnt A n:=by
   have j:InN n (s.filter fun x=>A x.toNat):=⟨⟨hs.1.1.filter _,fun x d=>hs.1.2 x (List.mem_filter.1 d).1⟩,fun x d=>hs.2 x (List.mem_filter.1 d).1⟩;rw [X3_ j];exact (C2_ n).mono fun i _ k=>by
    have:=(List.mem_filter.1 (memP_iff.1 k)).2
    rwa [Int.toNat_natCast] at this
  have h3:(rs.filter fun r=>B r.toNat).length≤cnt B R:=by
   have:=K.nodup_le (a:=rs.filter fun r=>B r.toNat) (b:=((List.range R).filter B).map fun (q:Nat)=>(q:Int)) (m.filter _) fun r c=>by
    obtain ⟨a,b⟩:=List.mem_filter.1 c;have:=o r a;exact List.mem_map.2 ⟨r.toNat,List.mem_filter.2 ⟨List.mem_range.2 q40_,b⟩,q40_⟩
   rw [List.length_map] at this;exact this
  omega
 ·intro h
  obtain ⟨rs,e,_⟩:=Vc9 (l:=l) (n:=n) (R:=R) (U:=[]) (fun i r c=>by have:=f i _ c;omega) hs (by
   rw [show (fun (i r:Nat)=>(r:Int)∈l.getD i []∧(r:Int)∉[])=fun (i r:Nat)=>(r:Int)∈l.getD i [] by funext i r;simp];exact h)
  exact ⟨rs,e,fun r _=>by simp⟩
noncomputable def indB (k:Nat) (m:Mat) (s:List Int):Bool:=decide (rkP k m (memP s)=s.length)
theorem V4_ {k:Nat} {m:Mat} {s:List Int}:indB k m s=true↔rkP k m (memP s)=s.length:=by unfold indB;rw [decide_eq_true_iff]
theorem Jz7 {m:Mat} {s:List Int} (h:mayI m s=true):indT m s=indB 4 m s:=by rw [Bool.eq_iff_iff,V4_];exact M2_ h
theorem Yg4 (P:Nat→Bool) (a:Nat):∀ b,cnt P (a+b)=cnt P a+cnt (fun i=>P (a+i)) b
 | 0=>by simp [cnt]
 | b+1=>by rw [← Nat.add_assoc,X4_,X4_,Yg4 P a b];omega
theorem Xm1 {f:Mat→(Nat→Bool)→Nat}:∀ {l:List Mat} {P:Nat→Bool},(∀ x∈l,∀ Q,f x Q≤cnt Q (nN x))→sumR f l P≤cnt P (l.map nN).sum
 | [],P,_=>by simp [sumR]
 | x :: r,P,h=>by
  rw [sumR,List.map_cons,List.sum_cons,Yg4];have:=h x z40_ P;have:=Xm1 (f:=f) (l:=r) (P:=fun i=>P (nN x+i)) fun y hy=>h y k44_;omega
theorem Yp2 {f:Mat→(Nat→Bool)→Nat}:∀ {l:List Mat} {P:Nat→Bool},(∀ x∈l,∀ Q,f x Q≤cnt Q (nN x))→(sumR f l P=cnt P (l.map nN).sum↔∀ j,j<l.length→f (l.getD j default) (fun i=>P (offN l j+i))=cnt (fun i=>P (offN l j+i)) (nN (l.getD j default)))
 | [],P,_=>⟨fun _ j c=>absurd c z40_,fun _=>by simp [sumR,cnt]⟩
 | x :: r,P,h=>by
  have k:=h x z40_ P;have m:=Xm1 (f:=f) (l:=r) (P:=fun i=>P (nN x+i)) fun y hy=>h y k44_;have g:=Yp2 (f:=f) (l:=r) (P:=fun i=>P (nN x+i)) fun y hy=>h y k44_;have e:∀ j,offN (x :: r) (j+1)=nN x+offN r j:=fun j=>by unfold offN;simp
  rw [sumR,List.map_cons,List.sum_cons,Yg4];constructor
  ·intro hs j c
   match j with
   | 0 =>
    have d:(fun i=>P (offN (x :: r) 0+i))=P:=by funext i;simp [offN]
    rw [d];show f x P=cnt P (nN x);omega
   | j+1 =>
    have:=g.1 q40_ j (by simp at c;omega);rw [e j];simp only [Nat.add_assoc];exact this
  ·intro c
   have a:=c 0 z40_;have d:(fun i=>P (offN (x :: r) 0+i))=P:=by funext i;simp [offN]
   rw [d] at a;have a:f x P=cnt P (nN x):=a;have b:=g.2 fun j o=>by
    have:=c (j+1) j40_;rw [e j] at this;simp only [Nat.add_assoc] at this;exact this
   omega
section
variable {k:Nat} {m:Mat} {s:List Int} (hc:chk m=0) (hd:dp 4 m≤k+1) (hs:InN (nN m) s)
include hc hs
theorem ind_0 (c:m.t=0):indB (k+1) m s=decide ((s.length:Int)≤m.a):=by
 have:=X3_ hs;have ha:=chk_a hc;rw [Bool.eq_iff_iff,V4_,decide_eq_true_iff,rkP_0 c];omega
theorem ind_2 (f:m.t=2):indB (k+1) m s=(List.range m.a.toNat).all fun c=>decide ((cntC (row m 0) s (c:Int):Int)≤(row m 1).getD c 0):=by
 obtain ⟨_,u,v,j,q⟩:=Zj6 hc f;have r:=Y0_ hc;have ha:=chk_a hc;have o:∀ i,i<nN m→clsOf m i<m.a.toNat:=fun i p=>by have:=j i q40_;unfold clsOf;omega
 rw [Bool.eq_iff_iff,V4_,rkP_2 f,X3_ hs,Vj3 o,List.all_eq_true];have g:∀ c,c<m.a.toNat→(clsN (nN m) (clsOf m) (memP s) c≤Yz6 m c↔decide ((cntC (row m 0) s (c:Int):Int)≤(row m 1).getD c 0)=true):=fun c d=>by
  rw [decide_eq_true_iff,Vj4 hs (fun i p=>(j i q40_).1)];have:=q c q40_;show clsN (nN m) (clsOf m) (memP s) c≤((row m 1).getD c 0).toNat↔((clsN (nN m) (clsOf m) (memP s) c:Nat):Int)≤_;omega
 exact ⟨fun h c e=>(g c (List.mem_range.1 e)).1 (h c (List.mem_range.1 e)),fun h c d=>(g c d).2 (h c (List.mem_range.2 d))⟩
theorem ind_3 (h:m.t=3):indB (k+1) m s=F3_ m.l s []:=by
 obtain ⟨j,e⟩:=Zc4 hc h;have ha:=chk_a hc;have g:∀ i,IsSet (m.l.getD i [])∧∀ r∈m.l.getD i [],0≤r∧r<(m.a.toNat:Int):=fun i=>by
  rcases Nat.lt_or_ge i m.l.length with c | c
  ·unfold mayM at e
   rw [Bool.and_eq_true,List.all_eq_true] at e;have f:=Zo2 (e.2 _ (Q5_ [] c));exact ⟨f.1,fun r d=>by have:=f.2 r d;omega⟩
  ·rw [List.getD_eq_getElem?_getD,List.getElem?_eq_none c]
   exact ⟨J0_,fun r d=>absurd d z40_⟩
 rw [Bool.eq_iff_iff,V4_,rkP_3 h,Xm0 (R:=m.a.toNat) (fun i=>(g i).1) (fun i=>(g i).2) hs];exact Iff.rfl
theorem ind_5 (c:m.t=5):indB (k+1) m s=indB k (inn m) (imgM m s):=by
 rw [Bool.eq_iff_iff,V4_,V4_,rkP_5 c,U7_ hc (.inl c) hs,show (imgM m s).length=s.length by unfold imgM;rw [List.length_map]]
include hd
theorem ind_7 (c:m.t=7):indB (k+1) m s=(decide ((s.length:Int)≤m.a) && indB k (inn m) s):=by
 obtain ⟨j,d,h3⟩:=J4_ hc q40_;have ha:=chk_a hc;have h:=H3_ hc (.inl c);have g:=rk_ok k (inn m) d q40_;have f:=g.le_cnt (memP s);have hl:=X3_ hs;have e:nN (inn m)=nN m:=by unfold nN;rw [h]
 rw [e] at f;rw [Bool.eq_iff_iff,V4_,rkP_7 c,Bool.and_eq_true,decide_eq_true_iff,V4_];omega
theorem ind_6 (c:m.t=6):indB (k+1) m s=indB k (inn m) (Y1_ (imgM m s) (baseL (indB k (inn m)) [] (row m 0))):=by
 obtain ⟨j,g,h3⟩:=J4_ hc q40_;have w:=Y0_ g;have o:=rk_ok k (inn m) g q40_;have A:=Zc5 hc (.inr c);have f:=Zc6 hc (.inr c) hs;obtain ⟨h,q,D,E,r⟩:=O8_ o w.2 (I:=indB k (inn m)) (fun t _=>V4_) A;have u:∀ y∈imgM m s,y∉baseL (indB k (inn m)) [] (row m 0):=fun y d hb=>by
  have C:=q y hb;have p:memP (imgM m s) y.toNat=true:=memP_iff.2 (by rw [show ((y.toNat:Nat):Int)=y by have:=f.2 y d;omega];exact d);rw [U7_ hc (.inr c) hs,imgP_iff] at p;obtain ⟨i,v,_,e⟩:=p;have:=Yz8 hc c v;rw [e,← Bool.not_eq_true,memP_iff] at this;exact this (by rw [show ((y.toNat:Nat):Int)=y by have:=f.2 y d;omega];exact C)
 have B:(Y1_ (imgM m s) (baseL (indB k (inn m)) [] (row m 0))).length=s.length+rkP k (inn m) (memP (row m 0)):=by
  have j:=Vd8 f.1 h.1;have g:meetL (imgM m s) (baseL (indB k (inn m)) [] (row m 0))=[]:=by
   cases hm:meetL (imgM m s) (baseL (indB k (inn m)) [] (row m 0)) with
   | nil=>rfl
   | cons y l =>
    have d:=(T1_ f.1 h.1 y).1 (by rw [hm];simp);exact absurd d.2 (u y d.1)
  rw [g] at j;have h3:(imgM m s).length=s.length:=by unfold imgM;rw [List.length_map]
  simp only [List.length_nil] at j;omega
 have x:rkP k (inn m) (memP (Y1_ (imgM m s) (baseL (indB k (inn m)) [] (row m 0))))=rkP k (inn m) (orP (memP (row m 0)) (imgP (nN m) (stayN m) (memP s))):=by
  rw [I3_ f.1 h.1,r,U7_ hc (.inr c) hs];exact o.ext fun i _=>by unfold orP;rw [Bool.or_comm]
 have F:=o.mono (P:=memP (row m 0)) (Q:=orP (memP (row m 0)) (imgP (nN m) (stayN m) (memP s))) fun i _ z=>by unfold orP;rw [z];rfl
 rw [Bool.eq_iff_iff,V4_,V4_,rkP_6 c,B,x];omega
theorem ind_8 (o:m.t=8):indB (k+1) m s=decide ((baseL (indB k (inn m)) [] (Z8_ (allL m.n) s)).length=(baseL (indB k (inn m)) [] (allL m.n)).length):=by
 obtain ⟨y,h,h3⟩:=J4_ hc q40_;have j:=Y0_ h;have c:=chk_n hc;have f:=rk_ok k (inn m) h q40_;have x:=H3_ hc (.inr o);have e:nN (inn m)=nN m:=by unfold nN;rw [x]
 have u:InN (nN (inn m)) (allL m.n):=by rw [e];exact Zo3 c.1 c.2
 have v:InN (nN (inn m)) (Z8_ (allL m.n) s):=by rw [e];exact Zj5 c.1 c.2 hs.1
 obtain ⟨_,_,p,_⟩:=O8_ f j.2 (I:=indB k (inn m)) (fun t _=>V4_) u;obtain ⟨_,_,c3,_⟩:=O8_ f j.2 (I:=indB k (inn m)) (fun t _=>V4_) v;have q:rkP k (inn m) (memP (allL m.n))=rkP k (inn m) allP:=f.ext fun i d=>by rw [e] at d;exact Ym7 c.1 c.2 d
 have r:rkP k (inn m) (memP (Z8_ (allL m.n) s))=rkP k (inn m) (notP (memP s)):=f.ext fun i d=>by rw [e] at d;exact Yz5 c.1 c.2 hs.1 d
 have hl:=X3_ hs;have z:=f.mono (P:=notP (memP s)) (Q:=allP) fun _ _ _=>rfl;rw [p,c3,q,r,Bool.eq_iff_iff,V4_,rkP_8 o,decide_eq_true_iff];rcases Nat.eq_zero_or_pos s.length with g | g
 ·have w:s=[]:=List.eq_nil_of_length_eq_zero g
  subst w;have:notP (memP [])=allP:=by funext i;rfl
  rw [this];simp only [List.length_nil] at hl;rw [← hl];simp
 ·omega
theorem ind_9 (u:m.t=9):indB (k+1) m s=(List.range m.i.length).all fun j=>indB k (m.i.getD j default) (betL s (offN m.i j:Nat) (nN (m.i.getD j default):Nat)):=by
 obtain ⟨r,v⟩:=Zo5 hc u;have p:∀ x∈m.i,∀ Q,rkP k x Q≤cnt Q (nN x):=fun x e Q=>(rk_ok k x (V3_ hc e).1 (by have:=(V3_ hc e).2;omega)).le_cnt Q;have d:=Yp2 (f:=rkP k) (l:=m.i) (P:=memP s) p;rw [r] at d;rw [Bool.eq_iff_iff,V4_,rkP_9 q40_,X3_ hs,d,List.all_eq_true];have o:∀ j,j<m.i.length→((rkP k (m.i.getD j default) fun i=>memP s (offN m.i j+i))=cnt (fun i=>memP s (offN m.i j+i)) (nN (m.i.getD j default))↔indB k (m.i.getD j default) (betL s (offN m.i j:Nat) (nN (m.i.getD j default):Nat))=true):=fun j c=>by
  have e:=Q5_ default c;have g:=(V3_ hc e).1;have hb:=Yf1 (N:=nN m) (f:=offN m.i j) hs (Y0_ g).2;have q:=rk_ok k _ g (by have:=(V3_ hc e).2;omega);rw [V4_,X3_ hb,q.ext fun i d=>Zo9 (s:=s) (f:=offN m.i j) d,N7_ fun i d=>Zo9 (s:=s) (f:=offN m.i j) d]
 exact ⟨fun h j c=>(o j (List.mem_range.1 c)).1 (h j (List.mem_range.1 c)),fun h j c=>(o j c).2 (h j (List.mem_range.2 c))⟩
end
end Go.Proofs.YtheeajnkiniopaaGreatDoor.Wp
