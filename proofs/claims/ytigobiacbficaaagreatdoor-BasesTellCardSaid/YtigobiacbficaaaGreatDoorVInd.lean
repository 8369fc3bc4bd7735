/- The document's own independence, kind by kind, plain: when a rank is as great as a set (VInd). -/
import Derived.Test.YtigobiacbficaaaGreatDoorVReach
import Derived.Test.YtigobiacbficaaaGreatDoorZI
import Derived.Test.YtigobiacbficaaaGreatDoorZW
import Derived.Test.YtigobiacbficaaaGreatDoorX0A
namespace Go.Proofs.YtigobiacbficaaaGreatDoor.Wp
open Go Go.RowKit
section
variable {n:Nat} {f:(Nat→Bool)→Nat} {I:List Int→Bool}
theorem Xp7 (e:n≤64) {x:Int} (d:0≤x∧x<(n:Int)):InN n [x]:=⟨⟨k40_,fun z c=>by rw [List.mem_singleton.1 c];exact ⟨y40_,y40_⟩⟩,fun z c=>by rw [List.mem_singleton.1 c];exact d⟩
theorem Xp8 (c:n≤64) {out:List Int} {x:Int} (ho:InN n out) (d:0≤x∧x<(n:Int)) (hlt:∀ y∈out,y<x):Y1_ out [x]=out ++ [x]:=by
 have h1:=Xp7 c d;refine IsSet.ext (E3_ _ _) ⟨?_,fun y hy=>?_⟩ fun y=>?_
 ·exact z23_
 ·exact y27_
 ·rw [A5_ ho.1 h1.1,List.mem_append]
theorem Zh8 (h:Rk n f) (g:n≤64) (hI:∀ t,InN n t→(I t=true↔f (memP t)=t.length)):∀ (r out:List Int),InN n out→InN n r→(∀ y∈out,∀ z∈r,y<z)→f (memP out)=out.length →
  InN n (baseL I out r)∧(∀ y∈out,y∈baseL I out r)∧(∀ y∈baseL I out r,y∈out∨y∈r)∧f (memP (baseL I out r))=(baseL I out r).length∧∀ y∈r,f (insP (memP (baseL I out r)) y.toNat)=f (memP (baseL I out r))
 | [],out,ho,_,_,hf=>⟨ho,fun _ h=>h,fun _ h=>.inl h,hf,fun _ h=>absurd h k40_⟩
 | x :: r,out,ho,hr,hlt,hf=>by
  have u:=hr.2 x k40_;have B:InN n r:=⟨⟨(List.pairwise_cons.1 hr.1.1).2,fun y hy=>hr.1.2 y y45_⟩,fun y hy=>hr.2 y y45_⟩;have F:∀ z∈r,x<z:=(List.pairwise_cons.1 hr.1.1).1;have s:=Xp8 g ho u fun y hy=>hlt y hy x k40_;have v:=Xp7 g u;have A:InN n (out ++ [x]):=by rw [← s];exact E4_ ho v
  have D:memP (out ++ [x])=insP (memP out) x.toNat:=by rw [← s,I9_ ho.1 v.1,Zu2 u.1]
  have w:=hI _ A;rw [baseL,s];by_cases hb:I (out ++ [x])=true
  ·rw [if_pos hb]
   obtain ⟨m,d,o,p,q⟩:=Zh8 h g hI r (out ++ [x]) A B (fun y hy z k=>by
    rcases List.mem_append.1 hy with hy | hy
    ·exact hlt y hy z (by simp [k])
    ·rw [List.mem_singleton.1 hy];exact F z k) (w.1 hb)
   refine ⟨m,fun y hy=>d y y45_,fun y hy=>?_,p,fun y hy=>?_⟩
   ·rcases o y hy with c | c
    ·rcases List.mem_append.1 c with c | c
     ·exact .inl c
     ·exact .inr (by rw [List.mem_singleton.1 c];simp)
    ·exact .inr (by simp [c])
   ·rcases List.mem_cons.1 hy with rfl | hy
    ·rw [I2_ (memP_iff.2 (by rw [show ((y.toNat:Nat):Int)=y by omega];exact d y k40_))]
    ·exact q y hy
  ·rw [if_neg hb]
   obtain ⟨m,d,o,p,q⟩:=Zh8 h g hI r out ho B (fun y hy z k=>hlt y hy z (by simp [k])) hf;refine ⟨m,d,fun y hy=>?_,p,fun y hy=>?_⟩
   ·rcases o y hy with c | c
    ·exact .inl c
    ·exact .inr (by simp [c])
   ·rcases List.mem_cons.1 hy with rfl | hy
    ·have j:y.toNat<n:=by omega
     have C:¬ f (memP (out ++ [y]))=(out ++ [y]).length:=fun e=>hb (w.2 e);rw [D,List.length_append,List.length_singleton] at C;have G:=h.up' (memP out) j;have H:=h.one' (memP out) j;have J:=h.dim_set (P:=memP out) (Q:=memP (baseL I out r)) (fun i _ E=>memP_iff.2 (d _ (memP_iff.1 E))) j;have K:=h.up' (memP (baseL I out r)) j;omega
    ·exact q y hy
theorem P0_ (h:Rk n f) (r:n≤64) (hI:∀ t,InN n t→(I t=true↔f (memP t)=t.length)) {s:List Int} (hs:InN n s) :
  InN n (baseL I [] s)∧(∀ y∈baseL I [] s,y∈s)∧(baseL I [] s).length=f (memP s)∧f (memP (baseL I [] s))=(baseL I [] s).length∧∀ Q,f (orP Q (memP (baseL I [] s)))=f (orP Q (memP s)):=by
 obtain ⟨m,_,o,p,q⟩:=Zh8 h r hI s [] (Xi3 n) hs (fun y c=>absurd c k40_) (by rw [Za0,h.zero];rfl);have j:∀ y∈baseL I [] s,y∈s:=fun y c=>(o y c).resolve_left k40_;have d:∀ Q,f (orP Q (memP (baseL I [] s)))=f (orP Q (memP s)):=fun Q=>by
  have g:=h.closed (orP Q (memP (baseL I [] s))) (memP s) (fun x k v=>by
   have e:=q x (memP_iff.1 v);rw [Int.toNat_natCast] at e;have w:=h.dim_set (P:=memP (baseL I [] s)) (Q:=orP Q (memP (baseL I [] s))) (fun i _ u=>by unfold orP;rw [u];simp) k;have z:=h.up' (orP Q (memP (baseL I [] s))) k;omega) n (Nat.le_refl _)
  rw [E0_ h] at g;rw [← g];refine h.ext fun i _=>?_;unfold orP;cases hq:Q i
  ·cases hb:memP (baseL I [] s) i
   ·rfl
   ·have:=memP_iff.2 (j _ (memP_iff.1 hb))
    rw [this];rfl
  ·rfl
 refine ⟨m,j,?_,p,d⟩;have:=d noneP;rw [show orP noneP (memP (baseL I [] s))=memP (baseL I [] s) from rfl,show orP noneP (memP s)=memP s from rfl] at this;omega
end
theorem Xp9 {g h:Nat→Nat}:∀ {k:Nat},(∀ c,c<k→g c≤h c)→sumN g k≤sumN h k
 | 0,_=>Nat.le_refl _
 | k+1,e=>by
  rw [sumN,sumN];have:=Xp9 (g:=g) (h:=h) (k:=k) fun c hc=>e c y40_;have:=e k y40_;omega
theorem Xr0 {g h:Nat→Nat}:∀ {k:Nat},(∀ c,c<k→g c≤h c)→sumN g k=sumN h k→∀ c,c<k→g c=h c
 | 0,_,_,c,hc=>by omega
 | k+1,e,he,c,hc=>by
  rw [sumN,sumN] at he;have f:=Xp9 (g:=g) (h:=h) (k:=k) fun c hc=>e c y40_;have h2:=e k y40_;by_cases d:c=k
  ·rw [d];omega
  ·exact Xr0 (k:=k) (fun c hc=>e c y40_) y40_ c y40_
theorem Vt9 {A n:Nat} {cls:Nat→Nat} (hc:∀ i,i<n→cls i<A) (P:Nat→Bool):sumN (clsN n cls P) A=cnt P n:=by
 have h:=(Yg7 (A:=A) (n:=n) (cls:=cls) (most:=fun _=>n) hc);have e:partR A n cls (fun _=>n) P=sumN (clsN n cls P) A:=U7_ fun c _=>Nat.min_eq_right (by unfold clsN;exact A8_ _ _);rw [← e];have m:∀ k,k≤n→partR A n cls (fun _=>n) (addK noneP P k)=cnt (addK noneP P k) n:=fun k=>by
  induction k with
  | zero=>intro _;rw [H0_,h.zero,F9_]
  | succ k d =>
   intro o;have d:=d y40_;cases hp:P k
   ·rw [S6_ hp];exact d
   ·have j:addK noneP P k k=false:=by simp [addK,noneP]
    have c1:=A4_ (n:=n) (by omega:k<n) j;have c2:=A8_ (insP (addK noneP P k) k) n;have c3:clsN n cls (addK noneP P k) (cls k)≤cnt (addK noneP P k) n:=(C0_ n).mono (P:=fun i=>addK noneP P k i && cls i==cls k) fun i _ g=>by
     rw [Bool.and_eq_true] at g;exact g.1
    rw [L6_ hp,Yq0 (hc k y40_) y40_ j,if_pos y40_,c1,d]
 have f:=m n (Nat.le_refl _);rw [E0_ h,E0_ (C0_ n)] at f;exact f
theorem Vd6 {A n:Nat} {cls most:Nat→Nat} (hc:∀ i,i<n→cls i<A) (P:Nat→Bool):partR A n cls most P=cnt P n↔∀ c,c<A→clsN n cls P c≤most c:=by
 rw [← Vt9 hc P];constructor
 ·intro h c d
  have:=Xr0 (g:=fun c=>min (most c) (clsN n cls P c)) (h:=clsN n cls P) (fun c _=>Nat.min_le_right _ _) h c d;have this:min (most c) (clsN n cls P c)=clsN n cls P c:=this;omega
 ·intro h
  exact U7_ fun c d=>Nat.min_eq_right (h c d)
theorem Vd7 {n:Nat} {cl s:List Int} (hs:InN n s) (e:∀ i,i<n→0≤cl.getD i 0) (c:Nat):cntC cl s (c:Int)=clsN n (fun i=>(cl.getD i 0).toNat) (memP s) c:=by
 have f:InN n (s.filter fun x=>cl.getD x.toNat 0==(c:Int)):=⟨⟨hs.1.1.filter _,fun x d=>hs.1.2 x (List.mem_filter.1 d).1⟩,fun x d=>hs.2 x (List.mem_filter.1 d).1⟩;unfold cntC;rw [Y9_ f];unfold clsN;refine I3_ fun i g=>?_;have h:=e i g;rw [Bool.eq_iff_iff,memP_iff,List.mem_filter,Bool.and_eq_true,memP_iff,beq_iff_eq,beq_iff_eq,Int.toNat_natCast];constructor
 ·rintro ⟨a,b⟩
  refine ⟨a,?_⟩;show (cl.getD i 0).toNat=c;omega
 ·rintro ⟨a,b⟩
  have b:(cl.getD i 0).toNat=c:=b;exact ⟨a,y40_⟩
inductive SDR (l:List (List Int)):List Int→List Int→Prop
 | nil:SDR l [] []
 | cons {x r:Int} {s rs:List Int}:r∈l.getD x.toNat []→r∉rs→SDR l s rs→SDR l (x :: s) (r :: rs)
theorem Zx8 {l:List (List Int)} (hl:∀ i,IsSet (l.getD i [])):∀ {s d:List Int},IsSet d→(F8_ l s d=true↔∃ rs,SDR l s rs∧∀ r∈rs,r∉d)
 | [],d,_=>⟨fun _=>⟨[],.nil,fun r f=>absurd f k40_⟩,fun _=>rfl⟩
 | x :: s,d,hu=>by
  rw [F8_,List.any_eq_true];have j:∀ r∈l.getD x.toNat [],IsSet [r]:=fun r f=>⟨k40_,fun z o=>by rw [List.mem_singleton.1 o];exact (hl _).2 r f⟩;constructor
  ·rintro ⟨r,f,m⟩
   obtain ⟨a,b⟩:=(X5_ (hl _) hu r).1 f;obtain ⟨rs,g,e⟩:=(Zx8 hl (E3_ _ _)).1 m;have k:∀ q∈rs,q∉d∧q≠r:=fun q c=>⟨fun h=>e q c ((A5_ hu (j r a) q).2 (.inl h)),fun h=>e q c ((A5_ hu (j r a) q).2 (.inr (by simp [h])))⟩;refine ⟨r :: rs,.cons a (fun h=>(k r h).2 rfl) g,fun q c=>?_⟩;rcases List.mem_cons.1 c with rfl | c
   ·exact b
   ·exact (k q c).1
  ·rintro ⟨rs,g,e⟩
   cases g with
   | cons a b g =>
    rename_i r rs
    refine ⟨r,(X5_ (hl _) hu r).2 ⟨a,e r k40_⟩,(Zx8 hl (E3_ _ _)).2 ⟨rs,g,fun q c h=>?_⟩⟩;rcases (A5_ hu (j r a) q).1 h with h | h
    ·exact e q (by simp [c]) h
    ·rw [List.mem_singleton.1 h] at c
     exact b c
theorem Xr1 {n R:Nat} {g:Nat→Nat→Prop} {P:Nat→Bool} {x:Nat} (D:x<n) (z:∀ r,g x r→r<R) (H:covR n R g P≤cnt P n) (h:covR n R g (insP P x)=cnt P n+1):∃ r,g x r∧covR n R (fun i q=>g i q∧q≠r) P=cnt P n:=by
 refine Classical.byContradiction fun u=>?_;have u:∀ r,g x r→covR n R (fun i q=>g i q∧q≠r) P≠cnt P n:=fun r s e=>u ⟨r,s,e⟩;have C:∀ A B,CovP n g P A B→cnt P n≤cnt A n+cnt B R:=fun A B hc=>by
  have F:=L7_ (R:=R) ⟨A,B,hc,Nat.le_refl _⟩;have h2:=(Yx8 n R g).one' P D;omega
 have E:∀ k,k≤R→∃ A B,CovP n g P A B∧cnt A n+cnt B R≤cnt P n∧∀ r,r<k→g x r→B r=true:=fun k=>by
  induction k with
  | zero=>exact fun _=>⟨P,noneP,fun i r _ d _=>.inl d,by rw [F9_];exact Nat.le_refl _,fun r s=>by omega⟩
  | succ k ih =>
   intro I;obtain ⟨A,B,hc,hs,p⟩:=ih y40_;by_cases w:g x k
   ·obtain ⟨o,m,y,hs'⟩:=H5_ n R (fun i q=>g i q∧q≠k) P
    have J:covR n R (fun i q=>g i q∧q≠k) P≤cnt P n:=(Yx8 n R _).le_cnt P;have K:=u k w;have v:CovP n g P o (insP m k):=fun i r f d c=>by
     by_cases e:r=k
     ·rw [e,V0_];exact .inr rfl
     ·rw [X8_ e];exact y i r f d ⟨c,e⟩
    have G:=(C0_ R).one' m (show k<R by omega);have c2:=C (orP A o) (andP B (insP m k)) fun i r f d c=>by
     unfold orP andP;rcases hc i r f d c with e | e
     ·exact .inl (by rw [e];rfl)
     ·rcases v i r f d c with j | j
      ·exact .inl (by rw [j,Bool.or_true])
      ·exact .inr (by rw [e,j];rfl)
    have L:=(C0_ n).submod A o;have M:=(C0_ R).submod B (insP m k);refine ⟨andP A o,orP B (insP m k),fun i r f d c=>?_,?_,fun r s c=>?_⟩
    ·unfold orP andP
     rcases hc i r f d c with e | e
     ·rcases v i r f d c with j | j
      ·exact .inl (by rw [e,j];rfl)
      ·exact .inr (by rw [j,Bool.or_true])
     ·exact .inr (by rw [e];rfl)
    ·omega
    ·unfold orP
     by_cases e:r=k
     ·rw [e,V0_,Bool.or_true]
     ·rw [p r y40_ c];rfl
   ·exact ⟨A,B,hc,hs,fun r s c=>p r (by
     rcases Nat.lt_or_ge r k with h | h
     ·exact h
     ·exact absurd (show g x k by rw [show k=r by omega];exact c) w) c⟩
 obtain ⟨A,B,hc,hs,p⟩:=E R (Nat.le_refl _);have:=L7_ (n:=n) (R:=R) (g:=g) (P:=insP P x) (k:=cnt P n) ⟨A,B,fun i r f d c=>by
  by_cases e:i=x
  ·rw [e] at c;exact .inr (p r (z r c) c)
  ·rw [X8_ e] at d;exact hc i r f d c,hs⟩
 omega
theorem Vd8 {n:Nat} {x:Int} {s:List Int} (h:InN n (x :: s)):InN n s∧0≤x∧x<(n:Int)∧memP s x.toNat=false∧memP (x :: s)=insP (memP s) x.toNat:=by
 have d:=h.2 x k40_;have c:=List.pairwise_cons.1 h.1.1;refine ⟨⟨⟨c.2,fun y hy=>h.1.2 y y45_⟩,fun y hy=>h.2 y y45_⟩,d.1,d.2,?_,?_⟩
 ·rw [← Bool.not_eq_true,memP_iff,show ((x.toNat:Nat):Int)=x by omega]
  exact fun f=>by have:=c.1 x f;omega
 ·funext i
  rw [Bool.eq_iff_iff,memP_iff];unfold insP;rw [Bool.or_eq_true,beq_iff_eq,memP_iff,List.mem_cons];constructor
  ·rintro (e | e)
   ·exact .inl y40_
   ·exact .inr e
  ·rintro (e | e)
   ·exact .inl y40_
   ·exact .inr e
theorem Vi7 {l:List (List Int)} {n R:Nat} (j:∀ (i r:Nat),(r:Int)∈l.getD i []→r<R):∀ {s U:List Int},InN n s→covR n R (fun i r=>(r:Int)∈l.getD i []∧(r:Int)∉U) (memP s)=s.length→∃ rs,SDR l s rs∧∀ r∈rs,r∉U
 | [],U,_,_=>⟨[],.nil,fun r f=>absurd f k40_⟩
 | x :: s,U,hs,h=>by
  obtain ⟨g,h2,h3,w,m⟩:=Vd8 hs;have v:x.toNat<n:=y40_;rw [m,List.length_cons,Y9_ g] at h;obtain ⟨r,⟨o,p⟩,f⟩:=Xr1 v (fun r f=>j _ r f.1) ((Yx8 n R _).le_cnt _) h;have e:(fun (i q:Nat)=>((q:Int)∈l.getD i []∧(q:Int)∉U)∧q≠r)=fun (i q:Nat)=>(q:Int)∈l.getD i []∧(q:Int)∉(r:Int) :: U:=by
   funext i q
   refine propext ⟨fun ⟨⟨a,b⟩,c⟩=>⟨a,fun d=>?_⟩,fun ⟨a,b⟩=>⟨⟨a,fun d=>b (by simp [d])⟩,fun e=>b (by simp [e])⟩⟩;rcases List.mem_cons.1 d with e | e
   ·exact c y40_
   ·exact b e
  rw [e,← Y9_ g] at f;obtain ⟨rs,u,k⟩:=Vi7 j g f;refine ⟨(r:Int) :: rs,.cons o (fun hm=>k _ hm k40_) u,fun q d=>?_⟩;rcases List.mem_cons.1 d with rfl | d
  ·exact p
  ·exact fun hm=>k q d q51_
theorem Yc0 {l:List (List Int)} {A B:Nat→Bool}:∀ {s rs:List Int},SDR l s rs→(∀ x∈s,∀ r∈l.getD x.toNat [],A x.toNat=true∨B r.toNat=true)→s.length≤(s.filter fun x=>A x.toNat).length+(rs.filter fun r=>B r.toNat).length
 | _,_,.nil,_=>Nat.le_refl _
 | _,_,.cons (x:=x) (r:=r) (s:=s) (rs:=rs) a b hrs,h=>by
  have c:=Yc0 hrs fun y hy=>h y y45_;rw [List.filter_cons,List.filter_cons,List.length_cons];rcases h x k40_ r a with e | e
  ·exact k26_
  ·exact k26_
theorem Yc1 {l:List (List Int)} {R:Nat} (d:∀ (i:Nat) (r:Int),r∈l.getD i []→0≤r∧r<(R:Int)):∀ {s rs:List Int},SDR l s rs→rs.Nodup∧∀ r∈rs,0≤r∧r<(R:Int)
 | _,_,.nil=>⟨List.nodup_nil,fun r f=>absurd f k40_⟩
 | _,_,.cons a b hrs=>by
  obtain ⟨e,h2⟩:=Yc1 d hrs;refine ⟨List.nodup_cons.2 ⟨b,e⟩,fun q c=>?_⟩;rcases List.mem_cons.1 c with rfl | c
  ·exact d _ _ a
  ·exact h2 q c
theorem Xr2 {l:List (List Int)} {n R:Nat} {s:List Int} (hl:∀ i,IsSet (l.getD i [])) (f:∀ (i:Nat) (r:Int),r∈l.getD i []→0≤r∧r<(R:Int)) (hs:InN n s):F8_ l s []=true↔covR n R (fun i r=>(r:Int)∈l.getD i []) (memP s)=s.length:=by
 rw [Zx8 hl J0_];constructor
 ·rintro ⟨rs,e,-⟩
  have g:=(Yx8 n R (fun i r=>(r:Int)∈l.getD i [])).le_cnt (memP s);rw [← Y9_ hs] at g;refine Nat.le_antisymm g ?_;obtain ⟨A,B,hc,u⟩:=H5_ n R (fun i r=>(r:Int)∈l.getD i []) (memP s);have p:=Yc0 (A:=A) (B:=B) e fun x d r c=>by
   have w:=hs.2 x d;have v:=f _ r c;exact hc x.toNat r.toNat y40_ (memP_iff.2 (by rw [show ((x.toNat:Nat):Int)=x by omega];exact d)) (show ((r.toNat:Nat):Int)∈l.getD x.toNat [] by rw [show ((r.toNat:Nat):Int)=r by omega];exact c)
  obtain ⟨m,o⟩:=Yc1 f e;have h2:(s.filter fun x=>A x.toNat).length≤cnt A n:=by
   have j:InN n (s.filter fun x=>A x.toNat):=⟨⟨hs.1.1.filter _,fun x d=>hs.1.2 x (List.mem_filter.1 d).1⟩,fun x d=>hs.2 x (List.mem_filter.1 d).1⟩;rw [Y9_ j];exact (C0_ n).mono fun i _ k=>by
    have:=(List.mem_filter.1 (memP_iff.1 k)).2
    rwa [Int.toNat_natCast] at this
  have h3:(rs.filter fun r=>B r.toNat).length≤cnt B R:=by
   have:=K.nodup_le (a:=rs.filter fun r=>B r.toNat) (b:=((List.range R).filter B).map fun (q:Nat)=>(q:Int)) (m.filter _) fun r c=>by
    obtain ⟨a,b⟩:=List.mem_filter.1 c;have:=o r a;exact List.mem_map.2 ⟨r.toNat,List.mem_filter.2 ⟨List.mem_range.2 y40_,b⟩,y40_⟩
   rw [List.length_map] at this;exact this
  omega
 ·intro h
  obtain ⟨rs,e,_⟩:=Vi7 (l:=l) (n:=n) (R:=R) (U:=[]) (fun i r c=>by have:=f i _ c;omega) hs (by
   rw [show (fun (i r:Nat)=>(r:Int)∈l.getD i []∧(r:Int)∉[])=fun (i r:Nat)=>(r:Int)∈l.getD i [] by funext i r;simp];exact h)
  exact ⟨rs,e,fun r _=>by simp⟩
noncomputable def indB (k:Nat) (m:Mat) (s:List Int):Bool:=decide (rkP k m (memP s)=s.length)
theorem V4_ {k:Nat} {m:Mat} {s:List Int}:indB k m s=true↔rkP k m (memP s)=s.length:=by unfold indB;rw [decide_eq_true_iff]
theorem Jj9 {m:Mat} {s:List Int} (h:mayI m s=true):indT m s=indB 4 m s:=by rw [Bool.eq_iff_iff,V4_];exact M4_ h
theorem Yl2 (P:Nat→Bool) (a:Nat):∀ b,cnt P (a+b)=cnt P a+cnt (fun i=>P (a+i)) b
 | 0=>by simp [cnt]
 | b+1=>by rw [← Nat.add_assoc,X4_,X4_,Yl2 P a b];omega
theorem Xr3 {f:Mat→(Nat→Bool)→Nat}:∀ {l:List Mat} {P:Nat→Bool},(∀ x∈l,∀ Q,f x Q≤cnt Q (nN x))→sumR f l P≤cnt P (l.map nN).sum
 | [],P,_=>by simp [sumR]
 | x :: r,P,h=>by
  rw [sumR,List.map_cons,List.sum_cons,Yl2];have:=h x k40_ P;have:=Xr3 (f:=f) (l:=r) (P:=fun i=>P (nN x+i)) fun y hy=>h y y45_;omega
theorem Yu4 {f:Mat→(Nat→Bool)→Nat}:∀ {l:List Mat} {P:Nat→Bool},(∀ x∈l,∀ Q,f x Q≤cnt Q (nN x))→(sumR f l P=cnt P (l.map nN).sum↔∀ j,j<l.length→f (l.getD j default) (fun i=>P (offN l j+i))=cnt (fun i=>P (offN l j+i)) (nN (l.getD j default)))
 | [],P,_=>⟨fun _ j c=>absurd c k40_,fun _=>by simp [sumR,cnt]⟩
 | x :: r,P,h=>by
  have k:=h x k40_ P;have h2:=Xr3 (f:=f) (l:=r) (P:=fun i=>P (nN x+i)) fun y hy=>h y y45_;have g:=Yu4 (f:=f) (l:=r) (P:=fun i=>P (nN x+i)) fun y hy=>h y y45_;have e:∀ j,offN (x :: r) (j+1)=nN x+offN r j:=fun j=>by unfold offN;simp
  rw [sumR,List.map_cons,List.sum_cons,Yl2];constructor
  ·intro hs j c
   match j with
   | 0 =>
    have d:(fun i=>P (offN (x :: r) 0+i))=P:=by funext i;simp [offN]
    rw [d];show f x P=cnt P (nN x);omega
   | j+1 =>
    have:=g.1 y40_ j (by simp at c;omega);rw [e j];simp only [Nat.add_assoc];exact this
  ·intro c
   have a:=c 0 k40_;have d:(fun i=>P (offN (x :: r) 0+i))=P:=by funext i;simp [offN]
   rw [d] at a;have a:f x P=cnt P (nN x):=a;have b:=g.2 fun j m=>by
    have:=c (j+1) x41_;rw [e j] at this;simp only [Nat.add_assoc] at this;exact this
   omega
section
variable {k:Nat} {m:Mat} {s:List Int} (hc:chk m=0) (hd:dp 4 m≤k+1) (hs:InN (nN m) s)
include hc hs
theorem ind_0 (c:m.t=0):indB (k+1) m s=decide ((s.length:Int)≤m.a):=by
 have:=Y9_ hs;have ha:=chk_a hc;rw [Bool.eq_iff_iff,V4_,decide_eq_true_iff,rkP_0 c];omega
theorem ind_2 (f:m.t=2):indB (k+1) m s=(List.range m.a.toNat).all fun c=>decide ((cntC (row m 0) s (c:Int):Int)≤(row m 1).getD c 0):=by
 obtain ⟨_,u,v,j,q⟩:=Za2 hc f;have r:=Y0_ hc;have ha:=chk_a hc;have o:∀ i,i<nN m→clsOf m i<m.a.toNat:=fun i p=>by have:=j i y40_;unfold clsOf;omega
 rw [Bool.eq_iff_iff,V4_,rkP_2 f,Y9_ hs,Vd6 o,List.all_eq_true];have g:∀ c,c<m.a.toNat→(clsN (nN m) (clsOf m) (memP s) c≤Yj3 m c↔decide ((cntC (row m 0) s (c:Int):Int)≤(row m 1).getD c 0)=true):=fun c d=>by
  rw [decide_eq_true_iff,Vd7 hs (fun i p=>(j i y40_).1)];have:=q c y40_;show clsN (nN m) (clsOf m) (memP s) c≤((row m 1).getD c 0).toNat↔((clsN (nN m) (clsOf m) (memP s) c:Nat):Int)≤_;omega
 exact ⟨fun h c e=>(g c (List.mem_range.1 e)).1 (h c (List.mem_range.1 e)),fun h c d=>(g c d).2 (h c (List.mem_range.2 d))⟩
theorem ind_3 (h:m.t=3):indB (k+1) m s=F8_ m.l s []:=by
 obtain ⟨j,e⟩:=Zd9 hc h;have ha:=chk_a hc;have g:∀ i,IsSet (m.l.getD i [])∧∀ r∈m.l.getD i [],0≤r∧r<(m.a.toNat:Int):=fun i=>by
  rcases Nat.lt_or_ge i m.l.length with c | c
  ·unfold mayM at e
   rw [Bool.and_eq_true,List.all_eq_true] at e;have f:=Zr7 (e.2 _ (Q7_ [] c));exact ⟨f.1,fun r d=>by have:=f.2 r d;omega⟩
  ·rw [List.getD_eq_getElem?_getD,List.getElem?_eq_none c]
   exact ⟨J0_,fun r d=>absurd d k40_⟩
 rw [Bool.eq_iff_iff,V4_,rkP_3 h,Xr2 (R:=m.a.toNat) (fun i=>(g i).1) (fun i=>(g i).2) hs];exact Iff.rfl
theorem ind_5 (c:m.t=5):indB (k+1) m s=indB k (inn m) (imgM m s):=by
 rw [Bool.eq_iff_iff,V4_,V4_,rkP_5 c,W2_ hc (.inl c) hs,show (imgM m s).length=s.length by unfold imgM;rw [List.length_map]]
include hd
theorem ind_7 (c:m.t=7):indB (k+1) m s=(decide ((s.length:Int)≤m.a) && indB k (inn m) s):=by
 obtain ⟨h,h2,h3⟩:=J6_ hc y40_;have ha:=chk_a hc;have g:=H6_ hc (.inl c);have f:=rk_ok k (inn m) h2 y40_;have d:=f.le_cnt (memP s);have hl:=Y9_ hs;have e:nN (inn m)=nN m:=by unfold nN;rw [g]
 rw [e] at d;rw [Bool.eq_iff_iff,V4_,rkP_7 c,Bool.and_eq_true,decide_eq_true_iff,V4_];omega
theorem ind_6 (c:m.t=6):indB (k+1) m s=indB k (inn m) (Y1_ (imgM m s) (baseL (indB k (inn m)) [] (row m 0))):=by
 obtain ⟨h,h2,h3⟩:=J6_ hc y40_;have v:=Y0_ h2;have j:=rk_ok k (inn m) h2 y40_;have z:=Ze0 hc (.inr c);have f:=Ze1 hc (.inr c) hs;obtain ⟨g,p,C,D,q⟩:=P0_ j v.2 (I:=indB k (inn m)) (fun t _=>V4_) z;have r:∀ y∈imgM m s,y∉baseL (indB k (inn m)) [] (row m 0):=fun y d hb=>by
  have B:=p y hb;have o:memP (imgM m s) y.toNat=true:=memP_iff.2 (by rw [show ((y.toNat:Nat):Int)=y by have:=f.2 y d;omega];exact d);rw [W2_ hc (.inr c) hs,imgP_iff] at o;obtain ⟨i,u,_,e⟩:=o;have:=Yj5 hc c u;rw [e,← Bool.not_eq_true,memP_iff] at this;exact this (by rw [show ((y.toNat:Nat):Int)=y by have:=f.2 y d;omega];exact B)
 have A:(Y1_ (imgM m s) (baseL (indB k (inn m)) [] (row m 0))).length=s.length+rkP k (inn m) (memP (row m 0)):=by
  have h:=Vl0 f.1 g.1;have h2:meetL (imgM m s) (baseL (indB k (inn m)) [] (row m 0))=[]:=by
   cases hm:meetL (imgM m s) (baseL (indB k (inn m)) [] (row m 0)) with
   | nil=>rfl
   | cons y l =>
    have d:=(T6_ f.1 g.1 y).1 (by rw [hm];simp);exact absurd d.2 (r y d.1)
  rw [h2] at h;have h3:(imgM m s).length=s.length:=by unfold imgM;rw [List.length_map]
  simp only [List.length_nil] at h;omega
 have w:rkP k (inn m) (memP (Y1_ (imgM m s) (baseL (indB k (inn m)) [] (row m 0))))=rkP k (inn m) (orP (memP (row m 0)) (imgP (nN m) (stayN m) (memP s))):=by
  rw [I9_ f.1 g.1,q,W2_ hc (.inr c) hs];exact j.ext fun i _=>by unfold orP;rw [Bool.or_comm]
 have E:=j.mono (P:=memP (row m 0)) (Q:=orP (memP (row m 0)) (imgP (nN m) (stayN m) (memP s))) fun i _ x=>by unfold orP;rw [x];rfl
 rw [Bool.eq_iff_iff,V4_,V4_,rkP_6 c,A,w];omega
theorem ind_8 (j:m.t=8):indB (k+1) m s=decide ((baseL (indB k (inn m)) [] (Z8_ (allL m.n) s)).length=(baseL (indB k (inn m)) [] (allL m.n)).length):=by
 obtain ⟨x,h2,h3⟩:=J6_ hc y40_;have h:=Y0_ h2;have c:=chk_n hc;have f:=rk_ok k (inn m) h2 y40_;have w:=H6_ hc (.inr j);have e:nN (inn m)=nN m:=by unfold nN;rw [w]
 have r:InN (nN (inn m)) (allL m.n):=by rw [e];exact Zx0 c.1 c.2
 have u:InN (nN (inn m)) (Z8_ (allL m.n) s):=by rw [e];exact Za1 c.1 c.2 hs.1
 obtain ⟨_,_,o,_⟩:=P0_ f h.2 (I:=indB k (inn m)) (fun t _=>V4_) r;obtain ⟨_,_,c3,_⟩:=P0_ f h.2 (I:=indB k (inn m)) (fun t _=>V4_) u;have p:rkP k (inn m) (memP (allL m.n))=rkP k (inn m) allP:=f.ext fun i d=>by rw [e] at d;exact Yr8 c.1 c.2 d
 have q:rkP k (inn m) (memP (Z8_ (allL m.n) s))=rkP k (inn m) (notP (memP s)):=f.ext fun i d=>by rw [e] at d;exact Yj2 c.1 c.2 hs.1 d
 have hl:=Y9_ hs;have y:=f.mono (P:=notP (memP s)) (Q:=allP) fun _ _ _=>rfl;rw [o,c3,p,q,Bool.eq_iff_iff,V4_,rkP_8 j,decide_eq_true_iff];rcases Nat.eq_zero_or_pos s.length with g | g
 ·have v:s=[]:=List.eq_nil_of_length_eq_zero g
  subst v;have:notP (memP [])=allP:=by funext i;rfl
  rw [this];simp only [List.length_nil] at hl;rw [← hl];simp
 ·omega
theorem ind_9 (u:m.t=9):indB (k+1) m s=(List.range m.i.length).all fun j=>indB k (m.i.getD j default) (betL s (offN m.i j:Nat) (nN (m.i.getD j default):Nat)):=by
 obtain ⟨r,v⟩:=Zr9 hc u;have p:∀ x∈m.i,∀ Q,rkP k x Q≤cnt Q (nN x):=fun x e Q=>(rk_ok k x (V3_ hc e).1 (by have:=(V3_ hc e).2;omega)).le_cnt Q;have d:=Yu4 (f:=rkP k) (l:=m.i) (P:=memP s) p;rw [r] at d;rw [Bool.eq_iff_iff,V4_,rkP_9 y40_,Y9_ hs,d,List.all_eq_true];have o:∀ j,j<m.i.length→((rkP k (m.i.getD j default) fun i=>memP s (offN m.i j+i))=cnt (fun i=>memP s (offN m.i j+i)) (nN (m.i.getD j default))↔indB k (m.i.getD j default) (betL s (offN m.i j:Nat) (nN (m.i.getD j default):Nat))=true):=fun j c=>by
  have e:=Q7_ default c;have g:=(V3_ hc e).1;have hb:=Yi8 (N:=nN m) (f:=offN m.i j) hs (Y0_ g).2;have q:=rk_ok k _ g (by have:=(V3_ hc e).2;omega);rw [V4_,Y9_ hb,q.ext fun i d=>Zs4 (s:=s) (f:=offN m.i j) d,I3_ fun i d=>Zs4 (s:=s) (f:=offN m.i j) d]
 exact ⟨fun h j c=>(o j (List.mem_range.1 c)).1 (h j (List.mem_range.1 c)),fun h j c=>(o j c).2 (h j (List.mem_range.2 c))⟩
end
end Go.Proofs.YtigobiacbficaaaGreatDoor.Wp
