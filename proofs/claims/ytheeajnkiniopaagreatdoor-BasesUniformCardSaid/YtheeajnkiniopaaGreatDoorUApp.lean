/- What the laws of several matroids together ask, plain: all by the Bound alone. Nothing of the program here. -/
import Derived.Test.YtheeajnkiniopaaGreatDoorUMax
import Derived.Test.YtheeajnkiniopaaGreatDoorURMay
import Derived.Test.YtheeajnkiniopaaGreatDoorZU
import Derived.Test.YtheeajnkiniopaaGreatDoorUCls
import Derived.Deep.Slices
import Derived.Laws.AppendOwnNone
import Derived.Test.YtheeajnkiniopaaGreatDoorX0A
import Derived.Test.YtheeajnkiniopaaGreatDoorX0B
namespace Go.Proofs.YtheeajnkiniopaaGreatDoor.Wp
open Go Go.RowKit
noncomputable def rsum (ms:List Mat) (u:List Int):Nat:=(ms.map fun m=>rkP 4 m (memP u)).sum
theorem Yd5 (ms:List Mat) (u:List Int):∀ k,k≤ms.length→sumTo (fun k=>rkP 4 (ms.getD k default) (memP u)) k=rsum (ms.take k) u
 | 0,_=>rfl
 | k+1,h=>by
  show sumTo (fun k=>rkP 4 (ms.getD k default) (memP u)) k+rkP 4 (ms.getD k default) (memP u)=_;rw [Yd5 ms u k k29_];unfold rsum;rw [List.take_succ_eq_append_getElem k29_,List.map_append,List.sum_append];simp [List.getD,show k<ms.length by omega]
theorem Zr7 (ms:List Mat) (u:List Int):Zp4 ms u=rsum ms u:=by
 have:=Yd5 ms u ms.length (Nat.le_refl _);rw [List.take_length] at this;exact this
theorem L0_ (m:Mat) (ms:List Mat) (u:List Int):rsum (m :: ms) u=rkP 4 m (memP u)+rsum ms u:=by
 unfold rsum;rw [List.map_cons,List.sum_cons]
theorem Xo5 (a b:List Mat) (u:List Int):rsum (a ++ b) u=rsum a u+rsum b u:=by
 unfold rsum;rw [List.map_append,List.sum_append]
theorem Zh8 (m:Mat) (u:List Int):rsum [m] u=rkP 4 m (memP u):=by
 rw [L0_];rfl
theorem Yd6 (u:List Int):∀ a:List Mat,rsum a.reverse u=rsum a u
 | []=>rfl
 | x :: r=>by
  rw [List.reverse_cons,Xo5,Yd6 u r,Zh8,L0_];omega
theorem R2_ (m:Mat) (u:List Int):∀ k,rsum (List.replicate k m) u=k * rkP 4 m (memP u)
 | 0=>by rw [Nat.zero_mul];rfl
 | k+1=>by
  rw [List.replicate_succ,L0_,R2_ m u k,Nat.succ_mul];omega
section
variable {ms ms':List Mat} {n:Nat} {c u c' u':List Int}
theorem A0_ (h:Several ms n) (f:MaxU ms n c u):c.length=n∧InN n u∧u.length=rsum ms u+(Z2_ c (-1)).length∧∀ v,InN n v→v.length≤rsum ms v+(Z2_ c (-1)).length:=by
 obtain ⟨e,h2,h3,d,_⟩:=P5_ h f;rw [Zr7] at d;exact ⟨h2,h3,d,fun v g=>by rw [← Zr7];exact Xs7 e (by rw [h2];exact g)⟩
theorem Xo6 (h:Several ms n) (m:MaxU ms n c u) (k:Several ms' n) (o:MaxU ms' n c' u') (f:∀ v,InN n v→rsum ms v=rsum ms' v):(Z2_ c (-1)).length=(Z2_ c' (-1)).length:=by
 obtain ⟨_,d,p,g⟩:=A0_ h m;obtain ⟨_,e,q,j⟩:=A0_ k o;have r:=f u d;have s:=f u' e;have w:=g u' e;have x:=j u d;omega
theorem Xb2 {v:List Int} (h:InN n v):v.length≤n:=V6_ h
theorem R3_ (c:List Int) (k:Int):(Z2_ c k).length≤c.length:=by
 unfold Z2_;refine Nat.le_trans (List.length_filter_le _ _) ?_;rw [X5_];exact Nat.le_refl _
theorem Zh9:∀ n,cnt allP n=n
 | 0=>rfl
 | n+1=>by rw [Y7_,Zh9 n];rfl
theorem Zr8 {m:Mat} {s:List Int} (h:mayI m s=true):rankT m s=(rkP 4 m (memP s):Nat):=if_pos h
theorem Zi0 (h:n≤64):InN n (allL (n:Int))∧(allL (n:Int)).length=n:=by
 have c:=Zx7 (n:=(n:Int)) k29_ k29_;rw [Int.toNat_natCast] at c;refine ⟨c,?_⟩;rw [X1_ c,I9_ (Q:=allP) fun i d=>memP_iff.2 ((A3_ k29_ k29_ _).2 k29_),Zh9]
def unU (n a:Int):Mat:=.mk 0 n a 0 [] []
theorem A1_ {n a:Int} (c:0≤a) (d:a≤n) (h2:n≤64):chk (unU n a)=0:=by
 have hd:dp 4 (unU n a)=1:=by show (if nest (0:Int) then _ else 1)=1;rw [if_neg x30_]
 have hb:bad (unU n a)=0:=Yu1 (by show (0:Int)≤0∧(0:Int)<10;omega) ⟨by show 0≤n;omega,h2,c,by show a≤64;omega⟩ rfl (by
  show decide (a≤n)=true;rw [decide_eq_true_iff];exact d)
 refine chk_ok.2 ⟨k29_,?_⟩;rw [ok,decide_eq_true hb];rfl
theorem T3_ {n a:Int} {u:List Int} (c:InN n.toNat u):rkP 4 (unU n a) (memP u)=min a.toNat u.length:=by
 rw [rkP_0 rfl,X1_ c];rfl
def backM (ms:List Mat):List Mat:=unU (ms.getD 0 default).n 0 :: ms.reverse
theorem Xb3 {k:Nat} (c:k<ms.length):(backM ms).getD (k+1) default=ms.getD (ms.length - 1 - k) default:=by
 unfold backM;simp only [List.getD_eq_getElem?_getD,List.getElem?_cons_succ];rw [List.getElem?_reverse c]
theorem Yd7 (h:sevB ms=true) (m:ms.length≤7):sevB (backM ms)=true∧Several (backM ms) (nN (ms.getD 0 default))∧nN ((backM ms).getD 0 default)=nN (ms.getD 0 default):=by
 obtain ⟨c,h2⟩:=sev_iff.1 h;have h3:=c.n64;have g:=c.may 0 c.many.1;have e:=Y1_ g.1;have o:(backM ms).length=ms.length+1:=by simp [backM]
 have d:nN ((backM ms).getD 0 default)=nN (ms.getD 0 default):=rfl;have f:Several (backM ms) (nN (ms.getD 0 default)):=by
  refine ⟨k29_,fun k j=>?_⟩;cases k with
  | zero=>exact ⟨A1_ k29_ (by have:=e.1;omega) (by have:=e.1;omega),rfl⟩
  | succ k =>
   rw [Xb3 k29_];exact c.may _ k29_
 refine ⟨sev_iff.2 ⟨by rw [d];exact f,fun k j=>?_⟩,f,d⟩;cases k with
 | zero=>rfl
 | succ k =>
  rw [Xb3 k29_];exact h2 _ k29_
theorem Yx4 (h:sevB ms=true) (o:ms.length≤7) (g:MaxU ms (nN (ms.getD 0 default)) c u) (e:MaxU (backM ms) (nN (ms.getD 0 default)) c' u'):c.length=nN (ms.getD 0 default)∧c'.length=c.length∧(Z2_ c (-1)).length=(Z2_ c' (-1)).length∧(Z2_ c' 0).length=0:=by
 obtain ⟨f,_⟩:=sev_iff.1 h;obtain ⟨_,h2,_⟩:=Yd7 h o;have j:=(A0_ f g).1;have m:=(A0_ h2 e).1;refine ⟨j,k29_,Xo6 f g h2 e fun v p=>?_,?_⟩
 ·unfold backM
  rw [L0_,Yd6,T3_ p];simp
 ·have hc:=(P5_ h2 e).1
  have h3:=hc.cnt_class (k:=0) (by have:=hc.many;omega);have d:=V3_ (c:=c') (k:=((0:Nat):Int)) (by have:=h2.n64;omega);rw [← X1_ d,show (backM ms).getD 0 default=unU (ms.getD 0 default).n 0 from rfl,T3_ (n:=(ms.getD 0 default).n) (a:=0) (by rw [m] at d;exact d)] at h3;have:(Z2_ c' ((0:Nat):Int)).length=0:=by rw [← h3];simp
  exact this
theorem Yd8 (P:Nat→Bool):∀ n,cnt (notP P) n+cnt P n=n
 | 0=>rfl
 | n+1=>by
  have c:=Yd8 P n;rw [Y7_,Y7_];unfold notP at *
  cases P n
  ·simp
   omega
  ·simp
   omega
theorem Xb4 {f:(Nat→Bool)→Nat} (h:Rk n f) (P:Nat→Bool):f allP≤f P+cnt (notP P) n:=by
 have c:=h.submod P (notP P);have h2:=h.le_cnt (notP P);rw [show orP P (notP P)=allP from by funext i;simp [orP,notP,allP]] at c;omega
theorem Xb5 {m:Mat} (hc:chk m=0):rkP 4 m allP=rkP 4 m (memP (allL m.n)):=by
 have c:=Y1_ hc;refine (rk_of hc).ext fun i d=>?_;have h2:=(Zx7 (n:=m.n) k29_ k29_);show true=_;rw [Eq.comm,memP_iff,A3_ k29_ k29_];omega
theorem Xo7 {m:Mat} (hc:chk m=0) {u:List Int} (d:InN (nN m) u):rkP 4 m (memP (allL m.n))+u.length≤rkP 4 m (memP u)+nN m:=by
 have c:=Xb4 (rk_of hc) (memP u);have h2:=Yd8 (memP u) (nN m);rw [Xb5 hc] at c;rw [X1_ d];omega
theorem Xo8 {m:Mat} (hc:chk m=0) (u:List Int):rkP 4 m (memP u)≤rkP 4 m (memP (allL m.n)):=by
 rw [← Xb5 hc];exact (rk_of hc).mono fun _ _ _=>rfl
theorem Va2 {m:Mat} (h:Several [m] n) (p:MaxU [m] n c u):n=rkP 4 m (memP (allL m.n))+(Z2_ c (-1)).length:=by
 obtain ⟨d,h2⟩:=h.may 0 y30_;obtain ⟨_,g,q,j⟩:=A0_ h p;have d:chk m=0:=d;have h2:nN m=n:=h2;have h3:=Xo7 d (by rw [h2];exact g);have s:=Y1_ d;have e:=Zi0 (n:=n) k29_;have f:=j _ e.1;have r:=Zh8 m u;have k:=Zh8 m (allL (n:Int));have o:(n:Int)=m.n:=k29_;rw [e.2] at f;rw [o] at f k;omega
theorem Xb6 {m:Mat} {k:Nat} {R:Nat} (j:R=rkP 4 m (memP (allL m.n))) (h:Several (List.replicate k m) n) (D:MaxU (List.replicate k m) n c u) (f:Several (List.replicate (k+1) m) n) (E:MaxU (List.replicate (k+1) m) n c' u') (C:n=(Z2_ c' (-1)).length+(k+1) * R):n=(Z2_ c (-1)).length+k * R:=by
 obtain ⟨d,h2⟩:=f.may 0 y30_;have d:chk m=0:=by simpa using d
 have h2:nN m=n:=by simpa using h2
 have J:=Y1_ d;obtain ⟨_,o,p,r⟩:=A0_ h D;obtain ⟨_,G,H,s⟩:=A0_ f E;have e:=s u o;have g:=Zi0 (n:=n) k29_;have v:=r _ g.1;rw [g.2,show (n:Int)=m.n by omega,R2_,← j] at v;rw [R2_] at p e;have w:=Xo8 d u;rw [← j] at w;obtain ⟨t,F⟩:∃ t,R=rkP 4 m (memP u)+t:=⟨R - rkP 4 m (memP u),k29_⟩;generalize rkP 4 m (memP u)=q at *
 have A:(k+1) * R=k * R+R:=Nat.succ_mul _ _;have B:(k+1) * q=k * q+q:=Nat.succ_mul _ _;have I:k * R=k * q+k * t:=by rw [F,Nat.mul_add]
 rw [A] at C;rw [B] at e;generalize k * R=x at *
 generalize k * q=y at *
 generalize k * t=z at *
 omega
theorem Yn6 {m:Mat} {k:Nat} (h:Several (List.replicate k m) n) (o:MaxU (List.replicate k m) n c u) (j:Several (List.replicate (k+1) m) n) (p:MaxU (List.replicate (k+1) m) n c' u') (v:(Z2_ c (-1)).length=0):(Z2_ c' (-1)).length=0:=by
 obtain ⟨_,q,r,e⟩:=A0_ h o;obtain ⟨_,f,d,s⟩:=A0_ j p;have g:=e u' f;rw [R2_] at g d;rw [Nat.succ_mul] at d;omega
theorem Xb7 (m:Nat):∀ l:List Int,(l.map fun a=>min a.toNat m).sum≤(l.map Int.toNat).sum∧(m≤(l.map fun a=>min a.toNat m).sum∨(l.map fun a=>min a.toNat m).sum=(l.map Int.toNat).sum)
 | []=>⟨Nat.le_refl _,.inr rfl⟩
 | a :: r=>by
  obtain ⟨c,h2⟩:=Xb7 m r;simp only [List.map_cons,List.sum_cons];generalize (r.map fun a=>min a.toNat m).sum=x at *
  generalize (r.map Int.toNat).sum=y at *
  omega
theorem Zi1 {N:Int} (c:N.toNat=n) (d:InN n u):∀ l:List Int,rsum (l.map (unU N)) u=(l.map fun a=>min a.toNat u.length).sum
 | []=>rfl
 | a :: r=>by rw [List.map_cons,L0_,Zi1 c d r,List.map_cons,List.sum_cons,T3_ (by rw [c];exact d)]
theorem Va3 {N:Int} {l:List Int} (f:N.toNat=n) (h:Several (l.map (unU N)) n) (m:MaxU (l.map (unU N)) n c u):n=(Z2_ c (-1)).length+min ((l.map Int.toNat).sum) n:=by
 obtain ⟨hl,e,g,j⟩:=A0_ h m;have d:=Zi0 (n:=n) h.n64;have k:=j _ d.1;rw [Zi1 f e] at g;rw [Zi1 f d.1,d.2] at k;have o:=Xb2 e;have p:=R3_ c (-1);have m1:=Xb7 u.length l;have m2:=Xb7 n l;omega
end
open Go Go.RowKit
def indU (m:Mat) (s:List Int):Bool:=mayI m s && decide (min m.a.toNat (cnt (memP s) (nN m))=s.length)
theorem L1_ {m:Mat} (h:m.t=0) (s:List Int):rankT m s=if mayI m s then ((min m.a.toNat (cnt (memP s) (nN m)):Nat):Int) else -1:=by
 unfold rankT;rw [rkP_0 h]
theorem Xo9 {m:Mat} (h:m.t=0) (s:List Int):indT m s=indU m s:=by
 unfold indT indU;rw [L1_ h];cases mayI m s
 ·simp
 ·simp
  omega
def Vi3 (f:Int→List Int→Bool) (c:List Int) (x y:Int):Bool:=decide (0≤c.getD y.toNat 0) && (!(c.getD y.toNat 0==c.getD x.toNat 0) && f (c.getD y.toNat 0) (X2_ (Z7_ (Z2_ c (c.getD y.toNat 0)) [y]) [x]))
def roomC (f:Int→List Int→Bool) (c:List Int) (x k:Int):Bool:=!(c.getD x.toNat 0==k) && f k (X2_ (Z2_ c k) [x])
def arcsC (f:Int→List Int→Bool) (K:Nat) (c:List Int) (x:Int):List Int:=((upTo c.length).filter fun y=>Vi3 f c x y) ++ ((upTo K).filter fun k=>roomC f c x k).map fun k=>(c.length:Int)+k
def adjC (f:Int→List Int→Bool) (K:Nat) (c:List Int):List (List Int):=(upTo c.length).map (arcsC f K c) ++ List.replicate K []
theorem Vi4 (ms:List Mat) (c:List Int) (f:Int→List Int→Bool) (d:∀ k s,indT (mAt ms k) s=f k s):adjU ms c=adjC f ms.length c:=by
 obtain rfl:(fun k s=>indT (mAt ms k) s)=f:=funext fun k=>funext fun s=>d k s;rfl
instance nearDec (adj:List (List Int)) (dst:List Int):∀ (n:Nat) (x:Int),Decidable (Near adj dst n x)
 | 0,x=>inferInstanceAs (Decidable (x∈dst))
 | n+1,x=>by
  have:=nearDec adj dst n;exact inferInstanceAs (Decidable (Near adj dst n x∨∃ y∈adj.getD x.toNat [],Near adj dst n y))
theorem Yx5 {adj:List (List Int)} {dst S:List Int} (d:∀ x∈S,∀ y∈adj.getD x.toNat [],y∈S) (h2:∀ x∈S,x∉dst):∀ (k:Nat) (x:Int),x∈S→¬ Near adj dst k x
 | 0,x,hx,c=>h2 x hx c
 | k+1,x,hx,c=>by
  rcases c with c | ⟨y,e,c⟩
  ·exact Yx5 d h2 k x hx c
  ·exact Yx5 d h2 k y (d x hx y e) c
def two31:List Mat:=[unU 3 1,unU 3 1]
theorem Xp0 (k:Int):(mAt two31 k).t=0:=by
 unfold mAt two31;rcases k.toNat with _ | _ | j<;>rfl
theorem adj31 (c:List Int):adjU two31 c=adjC (fun k s=>indU (mAt two31 k) s) 2 c:=Vi4 two31 c _ fun k s=>Xo9 (Xp0 k) s
theorem Va4:adjU two31 [-1,-1,-1]=[[3,4],[3,4],[3,4],[],[]]:=by rw [adj31];decide +kernel
theorem Va5:adjU two31 [0,-1,-1]=[[4],[0,4],[0,4],[],[]]:=by rw [adj31];decide +kernel
theorem Xb8:adjU two31 [0,1,-1]=[[1],[0],[0,1],[],[]]:=by rw [adj31];decide +kernel
theorem Va6:Greedy (adjU two31 [-1,-1,-1]) (endsU two31 3) (Z2_ [-1,-1,-1] (-1)) 1 [0,3]:=by
 rw [Va4,show endsU two31 3=[3,4] from by decide +kernel,show Z2_ [-1,-1,-1] (-1)=[0,1,2] from by decide +kernel];exact q18_
theorem Va7:Greedy (adjU two31 [0,-1,-1]) (endsU two31 3) (Z2_ [0,-1,-1] (-1)) 1 [1,4]:=by
 rw [Va5,show endsU two31 3=[3,4] from by decide +kernel,show Z2_ [0,-1,-1] (-1)=[1,2] from by decide +kernel];exact q18_
theorem Xp1:MaxU two31 3 [0,1,-1] [0,1,2]:=by
 have c1:ChainU two31 3 1 [0,-1,-1]:=ChainU.succ (c:=[-1,-1,-1]) .zero Va6;have c2:ChainU two31 3 2 [0,1,-1]:=ChainU.succ (c:=[0,-1,-1]) c1 Va7;refine ⟨⟨2,c2⟩,?_,?_⟩
 ·unfold StopU
  rw [Xb8,show endsU two31 [0,1,-1].length=[3,4] from by decide +kernel,show Z2_ [0,1,-1] (-1)=[2] from by decide +kernel];intro y d k;exact Yx5 (S:=[0,1,2]) x30_ x30_ k y (by simp at d;subst d;decide)
 ·unfold comeU
  rw [Xb8];decide +kernel
theorem Xp2:sevB two31=true:=q31_
theorem Vi5 {c u:List Int} (h:MaxU two31 (nN (two31.getD 0 default)) c u):c=[0,1,-1]∧u=[0,1,2]:=Yy4 h Xp1
theorem Va8:E2_ two31 [0,1,2]=2:=by
 unfold E2_;rw [show E1_ two31 [0,1,2] two31.length=0+rankT (unU 3 1) [0,1,2]+rankT (unU 3 1) [0,1,2] from rfl,L1_ rfl];decide +kernel
theorem Va9:E2_ [unU 3 1] []=3:=by
 unfold E2_;rw [show E1_ [unU 3 1] [] [unU 3 1].length=0+rankT (unU 3 1) [] from rfl,L1_ rfl];decide +kernel
theorem Vb0:E2_ [unU 3 1] [0,1,2]=1:=by
 unfold E2_;rw [show E1_ [unU 3 1] [0,1,2] [unU 3 1].length=0+rankT (unU 3 1) [0,1,2] from rfl,L1_ rfl];decide +kernel
theorem Vb1:E2_ [] []=-1:=by
 unfold E2_;rw [if_neg x30_]
theorem Vb2:sevB []=false:=x30_
theorem Vi6:Z2_ [1,-1,1] 1=[0,2]:=q31_
theorem Yd9 (ms:List Mat) (u:List Int) (h:ms=two31∨ms=[unU 3 1]∨ms=[]) (_hu:u.length≤3):∀ k,k<ms.length→-1≤rankT (ms.getD k default) u∧rankT (ms.getD k default) u≤1000:=fun k c=>by
 have e:-1≤rankT (unU 3 1) u∧rankT (unU 3 1) u≤1000:=by
  rw [L1_ rfl];have:(unU 3 1).a.toNat=1:=rfl;split<;>omega
 have d:ms.getD k default=unU 3 1:=by
  rcases h with rfl | rfl | rfl
  ·have:k=0∨k=1:=by have:two31.length=2:=rfl;omega
   rcases this with rfl | rfl<;>rfl
  ·have:k=0:=by have:[unU 3 1].length=1:=rfl;omega
   subst this;rfl
  ·exact absurd c (Nat.not_lt_zero _)
 rw [d];exact e
theorem Xb9:(Tryz.prog.info? 37).map (fun i=>(i.zero,i.size,i.bytes))=some (some (.agg #[.int .i64 0,.int .i64 0,.int .i64 0,.int .i64 0,.slice none 0 0,.slice none 0 0]),6,80):=q30_
def flat6 (S:Nat→List Value) (n:Nat):List Value:=(List.range n).flatMap S
theorem T4_ (S:Nat→List Value) (n:Nat):flat6 S (n+1)=flat6 S n ++ S n:=by
 unfold flat6;rw [List.range_succ,List.flatMap_append];simp
theorem L2_ {S:Nat→List Value} (c:∀ k,(S k).length=6):∀ n,(flat6 S n).length=n * 6
 | 0=>rfl
 | n+1=>by rw [T4_,List.length_append,L2_ c n,c];omega
theorem Zi2 {S:Nat→List Value} (c:∀ k,(S k).length=6):∀ (n k j:Nat),k<n→j<6→(flat6 S n)[k * 6+j]?=(S k)[j]?
 | n+1,k,j,hk,hj=>by
  rw [T4_];by_cases e:k=n
  ·subst e
   rw [List.getElem?_append_right (by rw [L2_ c];omega),L2_ c];congr 1;omega
  ·rw [List.getElem?_append_left (by rw [L2_ c];omega)]
   exact Zi2 c n k j k29_ hj
theorem R4_ (a:Addr) (p j:Nat) (c:j≠0):(⟨(a.add p).block,(a.add p).off+j,none⟩:Addr)=a.add (p+j):=by
 unfold Addr.add;by_cases d:p=0
 ·subst d;simp [c]
 ·simp [d,c,Nat.add_assoc]
def SixM (w:World) (B:Nat) (S:Nat→List Value) (i:List Mat):Prop :=
 (∀ k,(S k).length=6)∧∀ k,k<i.length→∃ x0 x1 x2 x3 x4 x5,S k=[x0,x1,x2,x3,x4,x5]∧MatV w B (.agg #[x0,x1,x2,x3,x4,x5]) (i.getD k default)
theorem SixM.below {w w':World} {B:Nat} {S:Nat→List Value} {i:List Mat} (h:SixM w B S i) (hb:Below B w w'):SixM w' B S i:=⟨h.1,fun k d=>by
 obtain ⟨e,f,g,j,m,o,c,h2⟩:=h.2 k d;exact ⟨e,f,g,j,m,o,c,h2.bel hb⟩⟩
theorem SixM.more {w:World} {B:Nat} {S:Nat→List Value} {i:List Mat} (h:SixM w B S i) (c d e f g j:Value) (m:Mat) (s:MatV w B (.agg #[c,d,e,f,g,j]) m) :
  ∃ S',SixM w B S' (i ++ [m])∧flat6 S' (i.length+1)=flat6 S i.length ++ [c,d,e,f,g,j]:=by
 refine ⟨fun k=>if k<i.length then S k else [c,d,e,f,g,j],⟨fun k=>?_,fun k o=>?_⟩,?_⟩
 ·show (if k<i.length then S k else [c,d,e,f,g,j]).length=6
  split
  ·exact h.1 k
  ·rfl
 ·by_cases p:k<i.length
  ·obtain ⟨u,v,x,y,z,A,q,h2⟩:=h.2 k p
   refine ⟨u,v,x,y,z,A,(if_pos p).trans q,?_⟩;rw [show (i ++ [m]).getD k default=i.getD k default by simp [List.getD,List.getElem?_append_left p]];exact h2
  ·have r:k=i.length:=by rw [List.length_append] at o;simp at o;omega
   subst r;refine ⟨c,d,e,f,g,j,if_neg p,?_⟩;rw [show (i ++ [m]).getD i.length default=m by simp [List.getD]];exact s
 ·rw [T4_]
  congr 1
  ·unfold flat6
   rw [List.flatMap_def,List.flatMap_def];congr 1;exact List.map_congr_left fun k o=>if_pos (List.mem_range.1 o)
  ·exact if_neg k29_
theorem Yx6 {w:World} {base B:Nat} {v:Value} {S:Nat→List Value} {i:List Mat} (h:w.ownsRow base 37 6 v i.length (flat6 S i.length)) (c:SixM w B S i) (p:B≤w.heap.size):MatL w w.heap.size v i:=by
 rcases h.2 with ⟨rfl,m⟩ | ⟨g,f,F,rfl,hb,G,q,r,_⟩
 ·have:i=[]:=List.eq_nil_of_length_eq_zero m
  subst this;exact MatL.nil_ _ _
 ·refine ⟨some ⟨g,0,none⟩,f,rfl,⟨q,r,fun e=>by cases e⟩,fun k d=>?_⟩
  obtain ⟨y,z,A,C,D,E,o,h2⟩:=c.2 k d;have hc:∀ j u,j<6→(S k)[j]?=some u→w.cell? ((⟨g,0,none⟩:Addr).add (k * 6+j))=some u:=fun j u s x =>
   h.cells (g:=g) rfl (k * 6+j) u (by rw [Zi2 c.1 _ _ _ d s];exact x)
  rw [o] at hc;refine ⟨⟨g,0,none⟩,_,rfl,(h.lt g rfl).2,⟨y,z,A,C,D,E,rfl,hc 0 _ x30_ rfl,?_,?_,?_,?_,?_⟩,h2.mono p⟩
  ·rw [R4_ _ _ 1 x30_];exact hc 1 _ x30_ rfl
  ·rw [R4_ _ _ 2 x30_];exact hc 2 _ x30_ rfl
  ·rw [R4_ _ _ 3 x30_];exact hc 3 _ x30_ rfl
  ·rw [R4_ _ _ 4 x30_];exact hc 4 _ x30_ rfl
  ·rw [R4_ _ _ 5 x30_];exact hc 5 _ x30_ rfl
theorem R5_ {w:World} {y:Array Oper} {rest:List Oper} {o:Oper} {a:Act} {Q:Exit→Act→World→Prop} (g:o.guard=none) (s x:Operand)
  (p:o.op=.call { callee:=.builtin .append,args:=#[s,x],argTypes:=#[22, 22] })
  (base n k:Nat) (v:Value) (us ts:List Value) (A:Option Addr) (c:Nat) (hs:a.eval s=v) (q:a.eval x=.slice A k c) (f:w.ownsRow base 37 6 v n us) (hl:ts.length=k * 6)
  (B:∀ d,A=some d→∀ j u,ts[j]?=some u→w.cell? (d.add j)=some u) (D:∀ u∈ts,u.oneCell'=true) (C:A=none→k=0∧c=0) (I:n≤1048576) (H:k≤1048576) (hb:base≤w.heap.size)
  (h:∀ e w',w'.ownsRow base 37 6 e (n+k) (us ++ ts)→w.grownBy w' v.ownBlock→wpList Tryz.prog y Q rest (a.put o.dst e) w'):wpList Tryz.prog y Q (o :: rest) a w:=by
 obtain ⟨r,m,E,F,G⟩:=info_parts Xb9;cases A with
 | some d =>
  refine wpList_append_own w g s x _ p base 37 r (.agg #[.int .i64 0,.int .i64 0,.int .i64 0,.int .i64 0,.slice none 0 0,.slice none 0 0]) 6 80 q30_ m E F G rfl x30_ v n us hs f d k c ts q hl (B d rfl) D k31_ k29_ hb ?_;intro e w' z h2 _;exact h e w' z h2
 | none =>
  obtain ⟨rfl,rfl⟩:=C rfl;have:ts=[]:=List.eq_nil_of_length_eq_zero k29_;subst this;refine wpList_append_own_none g s x _ p base 37 r 6 q30_ m v n us hs f q ?_;exact h v w (by rw [List.append_nil];exact f) ⟨rfl,rfl,rfl,Nat.le_refl _,fun _ _ _=>rfl⟩
end Go.Proofs.YtheeajnkiniopaaGreatDoor.Wp
