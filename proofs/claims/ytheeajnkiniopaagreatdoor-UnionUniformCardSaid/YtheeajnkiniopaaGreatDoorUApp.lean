/- What the laws of several matroids together ask, plain: all by the Bound alone. Nothing of the program here. -/
import Derived.Test.YtheeajnkiniopaaGreatDoorZR
import Derived.Test.YtheeajnkiniopaaGreatDoorURMay
import Derived.Test.YtheeajnkiniopaaGreatDoorZU
import Derived.Test.YtheeajnkiniopaaGreatDoorUTurn
import Derived.Deep.Slices
import Derived.Laws.AppendOwnNone
import Derived.Test.YtheeajnkiniopaaGreatDoorX0A
import Derived.Test.YtheeajnkiniopaaGreatDoorX0B
namespace Go.Proofs.YtheeajnkiniopaaGreatDoor.Wp
open Go Go.RowKit
noncomputable def rsum (ms:List Mat) (u:List Int):Nat:=(ms.map fun m=>rkP 4 m (memP u)).sum
theorem Yo9 (ms:List Mat) (u:List Int):∀ k,k≤ms.length→sumTo (fun k=>rkP 4 (ms.getD k default) (memP u)) k=rsum (ms.take k) u
 | 0,_=>rfl
 | k+1,h=>by
  show sumTo (fun k=>rkP 4 (ms.getD k default) (memP u)) k+rkP 4 (ms.getD k default) (memP u)=_;rw [Yo9 ms u k x37_];unfold rsum;rw [List.take_succ_eq_append_getElem x37_,List.map_append,List.sum_append];simp [List.getD,show k<ms.length by omega]
theorem Yj7 (ms:List Mat) (u:List Int):Zk9 ms u=rsum ms u:=by
 have:=Yo9 ms u ms.length (Nat.le_refl _);rw [List.take_length] at this;exact this
theorem Yj8 (m:Mat) (ms:List Mat) (u:List Int):rsum (m :: ms) u=rkP 4 m (memP u)+rsum ms u:=by
 unfold rsum;rw [List.map_cons,List.sum_cons]
theorem Yp0 (a b:List Mat) (u:List Int):rsum (a ++ b) u=rsum a u+rsum b u:=by
 unfold rsum;rw [List.map_append,List.sum_append]
theorem Za3 (m:Mat) (u:List Int):rsum [m] u=rkP 4 m (memP u):=by
 rw [Yj8];rfl
section
variable {ms ms':List Mat} {n:Nat} {c u c' u':List Int}
theorem R9_ (h:Several ms n) (g:MaxU ms n c u):c.length=n∧InN n u∧u.length=rsum ms u+(Z3_ c (-1)).length∧∀ v,InN n v→v.length≤rsum ms v+(Z3_ c (-1)).length:=by
 obtain ⟨f,d,h3,e,_⟩:=K6_ h g;rw [Yj7] at e;exact ⟨d,h3,e,fun v j=>by rw [← Yj7];exact Ve8 f (by rw [d];exact j)⟩
theorem Ve9 {v:List Int} (h:InN n v):v.length≤n:=Y4_ h
theorem H2_ (c:List Int) (k:Int):(Z3_ c k).length≤c.length:=by
 unfold Z3_;refine Nat.le_trans (List.length_filter_le _ _) ?_;rw [X5_];exact Nat.le_refl _
theorem Yp1:∀ n,cnt allP n=n
 | 0=>rfl
 | n+1=>by rw [Y9_,Yp1 n];rfl
theorem Zz6 {m:Mat} {s:List Int} (h:mayI m s=true):rankT m s=(rkP 4 m (memP s):Nat):=if_pos h
theorem Xn7 (h:n≤64):InN n (allL (n:Int))∧(allL (n:Int)).length=n:=by
 have c:=T0_ (n:=(n:Int)) x37_ x37_;rw [Int.toNat_natCast] at c;refine ⟨c,?_⟩;rw [Y8_ c,I5_ (Q:=allP) fun i d=>memP_iff.2 ((C8_ x37_ x37_ _).2 x37_),Yp1]
def unU (n a:Int):Mat:=.mk 0 n a 0 [] []
theorem Zr9 {n a:Int} (c:0≤a) (d:a≤n) (e:n≤64):chk (unU n a)=0:=by
 have hd:dp 4 (unU n a)=1:=by show (if nest (0:Int) then _ else 1)=1;rw [if_neg x38_]
 have hb:bad (unU n a)=0:=Xc5 (by show (0:Int)≤0∧(0:Int)<10;omega) ⟨by show 0≤n;omega,e,c,by show a≤64;omega⟩ rfl (by
  show decide (a≤n)=true;rw [decide_eq_true_iff];exact d)
 refine chk_ok.2 ⟨x37_,?_⟩;rw [ok,decide_eq_true hb];rfl
theorem Xn8 {n a:Int} {u:List Int} (c:InN n.toNat u):rkP 4 (unU n a) (memP u)=min a.toNat u.length:=by
 rw [rkP_0 rfl,Y8_ c];rfl
theorem Yp2 (P:Nat→Bool):∀ n,cnt (notP P) n+cnt P n=n
 | 0=>rfl
 | n+1=>by
  have c:=Yp2 P n;rw [Y9_,Y9_];unfold notP at *
  cases P n
  ·simp
   omega
  ·simp
   omega
theorem Xn9 {f:(Nat→Bool)→Nat} (h:Rk n f) (P:Nat→Bool):f allP≤f P+cnt (notP P) n:=by
 have c:=h.submod P (notP P);have d:=h.le_cnt (notP P);rw [show orP P (notP P)=allP from by funext i;simp [orP,notP,allP]] at c;omega
theorem Xo0 {m:Mat} (hc:chk m=0):rkP 4 m allP=rkP 4 m (memP (allL m.n)):=by
 have c:=Z7_ hc;refine (rk_of hc).ext fun i e=>?_;have d:=(T0_ (n:=m.n) x37_ x37_);show true=_;rw [Eq.comm,memP_iff,C8_ x37_ x37_];omega
theorem Va9 {m:Mat} (hc:chk m=0) {u:List Int} (d:InN (nN m) u):rkP 4 m (memP (allL m.n))+u.length≤rkP 4 m (memP u)+nN m:=by
 have c:=Xn9 (rk_of hc) (memP u);have e:=Yp2 (memP u) (nN m);rw [Xo0 hc] at c;rw [Y8_ d];omega
theorem Vb0 {m:Mat} (hc:chk m=0) (u:List Int):rkP 4 m (memP u)≤rkP 4 m (memP (allL m.n)):=by
 rw [← Xo0 hc];exact (rk_of hc).mono fun _ _ _=>rfl
theorem Vp8 {m:Mat} (h:Several [m] n) (q:MaxU [m] n c u):n=rkP 4 m (memP (allL m.n))+(Z3_ c (-1)).length:=by
 obtain ⟨d,e⟩:=h.may 0 j37_;obtain ⟨_,j,r,k⟩:=R9_ h q;have d:chk m=0:=d;have e:nN m=n:=e;have h3:=Va9 d (by rw [e];exact j);have v:=Z7_ d;have f:=Xn7 (n:=n) x37_;have g:=k _ f.1;have s:=Za3 m u;have o:=Za3 m (allL (n:Int));have p:(n:Int)=m.n:=x37_;rw [f.2] at g;rw [p] at g o;omega
theorem Vb1 {m:Mat} (h:Several (ms ++ [unU m.n m.n]) n) (e:m.n.toNat=n) (g:MaxU (ms ++ [unU m.n m.n]) n c u):(Z3_ c (-1)).length=0:=by
 obtain ⟨_,d,f,_⟩:=R9_ h g;rw [Yp0,Za3,Xn8 (by rw [e];exact d),e,Nat.min_eq_right (Ve9 d)] at f;omega
theorem Vb2 {m:Mat} (h:Several ms n) (q:MaxU ms n c u) (e:Several (ms ++ [m]) n) (r:MaxU (ms ++ [m]) n c' u'):(Z3_ c' (-1)).length≤(Z3_ c (-1)).length∧(Z3_ c (-1)).length≤(Z3_ c' (-1)).length+rkP 4 m (memP (allL m.n)):=by
 obtain ⟨d,x⟩:=e.may ms.length j37_;have d:chk m=0:=by simpa using d
 obtain ⟨_,f,s,g⟩:=R9_ h q;obtain ⟨_,j,k,o⟩:=R9_ e r;have v:=g u' j;have p:=o u f;rw [Yp0,Za3] at k p;have w:=Vb0 d u;constructor<;>omega
theorem Xo1 (m:Nat):∀ l:List Int,(l.map fun a=>min a.toNat m).sum≤(l.map Int.toNat).sum∧(m≤(l.map fun a=>min a.toNat m).sum∨(l.map fun a=>min a.toNat m).sum=(l.map Int.toNat).sum)
 | []=>⟨Nat.le_refl _,.inr rfl⟩
 | a :: r=>by
  obtain ⟨c,d⟩:=Xo1 m r;simp only [List.map_cons,List.sum_cons];generalize (r.map fun a=>min a.toNat m).sum=x at *
  generalize (r.map Int.toNat).sum=y at *
  omega
theorem Zs0 {N:Int} (c:N.toNat=n) (d:InN n u):∀ l:List Int,rsum (l.map (unU N)) u=(l.map fun a=>min a.toNat u.length).sum
 | []=>rfl
 | a :: r=>by rw [List.map_cons,Yj8,Zs0 c d r,List.map_cons,List.sum_cons,Xn8 (by rw [c];exact d)]
theorem Vp9 {N:Int} {l:List Int} (f:N.toNat=n) (h:Several (l.map (unU N)) n) (m:MaxU (l.map (unU N)) n c u):n=(Z3_ c (-1)).length+min ((l.map Int.toNat).sum) n:=by
 obtain ⟨hl,e,g,j⟩:=R9_ h m;have d:=Xn7 (n:=n) h.n64;have k:=j _ d.1;rw [Zs0 f e] at g;rw [Zs0 f d.1,d.2] at k;have o:=Ve9 e;have p:=H2_ c (-1);have m1:=Xo1 u.length l;have m2:=Xo1 n l;omega
theorem Zg3 (h:Several ms n) (c:InN n u):∀ k,k≤ms.length→J8_ ms u k=((sumTo (fun k=>rkP 4 (ms.getD k default) (memP u)) k:Nat):Int)
 | 0,_=>rfl
 | k+1,hk=>by
  obtain ⟨d,e⟩:=h.may k x37_;show J8_ ms u k+rankT (ms.getD k default) u=((sumTo (fun k=>rkP 4 (ms.getD k default) (memP u)) k+rkP 4 (ms.getD k default) (memP u):Nat):Int);rw [Zg3 h c k x37_,Zz6 (mayI_iff.2 ⟨d,by rw [e];exact c⟩)];omega
theorem Yj9 (h:sevB ms=true) (j:MaxU ms (nN (ms.getD 0 default)) c u):B4_ ms u=(ms.getD 0 default).n - ((Z3_ c (-1)).length:Int):=by
 obtain ⟨d,_⟩:=sev_iff.1 h;obtain ⟨f,h3⟩:=d.may 0 d.many.1;have e:=(K6_ d j);unfold B4_;rw [if_pos (by rw [h,mayI_iff.2 ⟨f,e.2.2.1⟩];rfl),Zg3 d e.2.2.1 _ (Nat.le_refl _)];have g:=e.2.2.2.1;unfold Zk9 at g;omega
end
open Go Go.RowKit
def indU (m:Mat) (s:List Int):Bool:=mayI m s && decide (min m.a.toNat (cnt (memP s) (nN m))=s.length)
theorem P4_ {m:Mat} (h:m.t=0) (s:List Int):rankT m s=if mayI m s then ((min m.a.toNat (cnt (memP s) (nN m)):Nat):Int) else -1:=by
 unfold rankT;rw [rkP_0 h]
theorem Vb3 {m:Mat} (h:m.t=0) (s:List Int):indT m s=indU m s:=by
 unfold indT indU;rw [P4_ h];cases mayI m s
 ·simp
 ·simp
  omega
def Jx8 (f:Int→List Int→Bool) (c:List Int) (x y:Int):Bool:=decide (0≤c.getD y.toNat 0) && (!(c.getD y.toNat 0==c.getD x.toNat 0) && f (c.getD y.toNat 0) (Y2_ (Z9_ (Z3_ c (c.getD y.toNat 0)) [y]) [x]))
def roomC (f:Int→List Int→Bool) (c:List Int) (x k:Int):Bool:=!(c.getD x.toNat 0==k) && f k (Y2_ (Z3_ c k) [x])
def arcsC (f:Int→List Int→Bool) (K:Nat) (c:List Int) (x:Int):List Int:=((upTo c.length).filter fun y=>Jx8 f c x y) ++ ((upTo K).filter fun k=>roomC f c x k).map fun k=>(c.length:Int)+k
def adjC (f:Int→List Int→Bool) (K:Nat) (c:List Int):List (List Int):=(upTo c.length).map (arcsC f K c) ++ List.replicate K []
theorem Jx9 (ms:List Mat) (c:List Int) (f:Int→List Int→Bool) (d:∀ k s,indT (mAt ms k) s=f k s):adjU ms c=adjC f ms.length c:=by
 obtain rfl:(fun k s=>indT (mAt ms k) s)=f:=funext fun k=>funext fun s=>d k s;rfl
instance nearDec (adj:List (List Int)) (dst:List Int):∀ (n:Nat) (x:Int),Decidable (Near adj dst n x)
 | 0,x=>inferInstanceAs (Decidable (x∈dst))
 | n+1,x=>by
  have:=nearDec adj dst n;exact inferInstanceAs (Decidable (Near adj dst n x∨∃ y∈adj.getD x.toNat [],Near adj dst n y))
theorem Yg8 {adj:List (List Int)} {dst S:List Int} (d:∀ x∈S,∀ y∈adj.getD x.toNat [],y∈S) (e:∀ x∈S,x∉dst):∀ (k:Nat) (x:Int),x∈S→¬ Near adj dst k x
 | 0,x,hx,c=>e x hx c
 | k+1,x,hx,c=>by
  rcases c with c | ⟨y,f,c⟩
  ·exact Yg8 d e k x hx c
  ·exact Yg8 d e k y (d x hx y f) c
def two31:List Mat:=[unU 3 1,unU 3 1]
theorem Vb4 (k:Int):(mAt two31 k).t=0:=by
 unfold mAt two31;rcases k.toNat with _ | _ | j<;>rfl
theorem adj31 (c:List Int):adjU two31 c=adjC (fun k s=>indU (mAt two31 k) s) 2 c:=Jx9 two31 c _ fun k s=>Vb3 (Vb4 k) s
theorem Vr0:adjU two31 [-1,-1,-1]=[[3,4],[3,4],[3,4],[],[]]:=by rw [adj31];decide +kernel
theorem Vr1:adjU two31 [0,-1,-1]=[[4],[0,4],[0,4],[],[]]:=by rw [adj31];decide +kernel
theorem Xo2:adjU two31 [0,1,-1]=[[1],[0],[0,1],[],[]]:=by rw [adj31];decide +kernel
theorem Vr2:Greedy (adjU two31 [-1,-1,-1]) (endsU two31 3) (Z3_ [-1,-1,-1] (-1)) 1 [0,3]:=by
 rw [Vr0,show endsU two31 3=[3,4] from by decide +kernel,show Z3_ [-1,-1,-1] (-1)=[0,1,2] from by decide +kernel];exact z21_
theorem Vr3:Greedy (adjU two31 [0,-1,-1]) (endsU two31 3) (Z3_ [0,-1,-1] (-1)) 1 [1,4]:=by
 rw [Vr1,show endsU two31 3=[3,4] from by decide +kernel,show Z3_ [0,-1,-1] (-1)=[1,2] from by decide +kernel];exact z21_
theorem Vb5:MaxU two31 3 [0,1,-1] [0,1,2]:=by
 have c1:ChainU two31 3 1 [0,-1,-1]:=ChainU.succ (c:=[-1,-1,-1]) .zero Vr2;have c2:ChainU two31 3 2 [0,1,-1]:=ChainU.succ (c:=[0,-1,-1]) c1 Vr3;refine ⟨⟨2,c2⟩,?_,?_⟩
 ·unfold StopU
  rw [Xo2,show endsU two31 [0,1,-1].length=[3,4] from by decide +kernel,show Z3_ [0,1,-1] (-1)=[2] from by decide +kernel];intro y d k;exact Yg8 (S:=[0,1,2]) x38_ x38_ k y (by simp at d;subst d;decide)
 ·unfold comeU
  rw [Xo2];decide +kernel
theorem Vb6:sevB two31=true:=j38_
theorem Jv0 {c u:List Int} (h:MaxU two31 (nN (two31.getD 0 default)) c u):c=[0,1,-1]∧u=[0,1,2]:=Yf7 h Vb5
theorem Vr4:B4_ two31 [0,1,2]=2:=by
 unfold B4_;rw [show J8_ two31 [0,1,2] two31.length=0+rankT (unU 3 1) [0,1,2]+rankT (unU 3 1) [0,1,2] from rfl,P4_ rfl];decide +kernel
theorem Vr5:B4_ [unU 3 1] []=3:=by
 unfold B4_;rw [show J8_ [unU 3 1] [] [unU 3 1].length=0+rankT (unU 3 1) [] from rfl,P4_ rfl];decide +kernel
theorem Vr6:B4_ [unU 3 1] [0,1,2]=1:=by
 unfold B4_;rw [show J8_ [unU 3 1] [0,1,2] [unU 3 1].length=0+rankT (unU 3 1) [0,1,2] from rfl,P4_ rfl];decide +kernel
theorem Vr7:B4_ [] []=-1:=by
 unfold B4_;rw [if_neg x38_]
theorem Vr8:sevB []=false:=x38_
theorem Jv1:Z3_ [1,-1,1] 1=[0,2]:=j38_
theorem Yp3 (ms:List Mat) (u:List Int) (h:ms=two31∨ms=[unU 3 1]∨ms=[]) (_hu:u.length≤3):∀ k,k<ms.length→-1≤rankT (ms.getD k default) u∧rankT (ms.getD k default) u≤1000:=fun k c=>by
 have e:-1≤rankT (unU 3 1) u∧rankT (unU 3 1) u≤1000:=by
  rw [P4_ rfl];have:(unU 3 1).a.toNat=1:=rfl;split<;>omega
 have d:ms.getD k default=unU 3 1:=by
  rcases h with rfl | rfl | rfl
  ·have:k=0∨k=1:=by have:two31.length=2:=rfl;omega
   rcases this with rfl | rfl<;>rfl
  ·have:k=0:=by have:[unU 3 1].length=1:=rfl;omega
   subst this;rfl
  ·exact absurd c (Nat.not_lt_zero _)
 rw [d];exact e
theorem Xo3:(Tryz.prog.info? 37).map (fun i=>(i.zero,i.size,i.bytes))=some (some (.agg #[.int .i64 0,.int .i64 0,.int .i64 0,.int .i64 0,.slice none 0 0,.slice none 0 0]),6,80):=y37_
def flat6 (S:Nat→List Value) (n:Nat):List Value:=(List.range n).flatMap S
theorem Zx7 (S:Nat→List Value) (n:Nat):flat6 S (n+1)=flat6 S n ++ S n:=by
 unfold flat6;rw [List.range_succ,List.flatMap_append];simp
theorem K8_ {S:Nat→List Value} (c:∀ k,(S k).length=6):∀ n,(flat6 S n).length=n * 6
 | 0=>rfl
 | n+1=>by rw [Zx7,List.length_append,K8_ c n,c];omega
theorem Zs1 {S:Nat→List Value} (c:∀ k,(S k).length=6):∀ (n k j:Nat),k<n→j<6→(flat6 S n)[k * 6+j]?=(S k)[j]?
 | n+1,k,j,hk,hj=>by
  rw [Zx7];by_cases e:k=n
  ·subst e
   rw [List.getElem?_append_right (by rw [K8_ c];omega),K8_ c];congr 1;omega
  ·rw [List.getElem?_append_left (by rw [K8_ c];omega)]
   exact Zs1 c n k j x37_ hj
theorem D6_ (a:Addr) (p j:Nat) (c:j≠0):(⟨(a.add p).block,(a.add p).off+j,none⟩:Addr)=a.add (p+j):=by
 unfold Addr.add;by_cases d:p=0
 ·subst d;simp [c]
 ·simp [d,c,Nat.add_assoc]
def SixM (w:World) (B:Nat) (S:Nat→List Value) (i:List Mat):Prop :=
 (∀ k,(S k).length=6)∧∀ k,k<i.length→∃ x0 x1 x2 x3 x4 x5,S k=[x0,x1,x2,x3,x4,x5]∧MatV w B (.agg #[x0,x1,x2,x3,x4,x5]) (i.getD k default)
theorem SixM.below {w w':World} {B:Nat} {S:Nat→List Value} {i:List Mat} (h:SixM w B S i) (hb:Below B w w'):SixM w' B S i:=⟨h.1,fun k e=>by
 obtain ⟨f,g,j,m,o,p,c,d⟩:=h.2 k e;exact ⟨f,g,j,m,o,p,c,d.bel hb⟩⟩
theorem SixM.more {w:World} {B:Nat} {S:Nat→List Value} {i:List Mat} (h:SixM w B S i) (c d e f g j:Value) (m:Mat) (u:MatV w B (.agg #[c,d,e,f,g,j]) m) :
  ∃ S',SixM w B S' (i ++ [m])∧flat6 S' (i.length+1)=flat6 S i.length ++ [c,d,e,f,g,j]:=by
 refine ⟨fun k=>if k<i.length then S k else [c,d,e,f,g,j],⟨fun k=>?_,fun k o=>?_⟩,?_⟩
 ·show (if k<i.length then S k else [c,d,e,f,g,j]).length=6
  split
  ·exact h.1 k
  ·rfl
 ·by_cases p:k<i.length
  ·obtain ⟨v,x,y,z,A,C,q,r⟩:=h.2 k p
   refine ⟨v,x,y,z,A,C,(if_pos p).trans q,?_⟩;rw [show (i ++ [m]).getD k default=i.getD k default by simp [List.getD,List.getElem?_append_left p]];exact r
  ·have s:k=i.length:=by rw [List.length_append] at o;simp at o;omega
   subst s;refine ⟨c,d,e,f,g,j,if_neg p,?_⟩;rw [show (i ++ [m]).getD i.length default=m by simp [List.getD]];exact u
 ·rw [Zx7]
  congr 1
  ·unfold flat6
   rw [List.flatMap_def,List.flatMap_def];congr 1;exact List.map_congr_left fun k o=>if_pos (List.mem_range.1 o)
  ·exact if_neg x37_
theorem Xj0 {w:World} {B:Nat} {A:Option Addr} {n c:Nat} {i:List Mat} (h:MatL w B (.slice A n c) i) :
  ∃ S,SixM w B S i∧n=i.length∧(A=none→c=0∧i=[])∧(∀ x,A=some x→∀ j u,(flat6 S i.length)[j]?=some u→w.cell? (x.add j)=some u)∧(∀ u∈flat6 S i.length,u.oneCell'=true):=by
 obtain ⟨V,c',U,T,P⟩:=h;injection U with e1 e2 e3;subst e1 e2 e3;obtain ⟨q,E⟩:=Go.Deep.choose_lt (α:=List Value) (n:=i.length) (p:=fun k l=>∃ g m o r s v,l=[g,m,o,r,s,v]∧MatV w B (.agg #[g,m,o,r,s,v]) (i.getD k default)∧A≠none∧(∀ u∈l,u.oneCell'=true) ∧
   ∀ x,A=some x→∀ j u,l[j]?=some u→w.cell? (x.add (k * 6+j))=some u) (fun k Q=>by
  obtain ⟨x,u,y,_,h3,D⟩:=P k Q;obtain ⟨lv,iv,C,⟨X,cl,rfl,_⟩,⟨W,Z,rfl,_⟩⟩:=D.open;obtain ⟨g,m,o,r,s,v,M,N,c1,c2,c3,c4,c5⟩:=h3;rw [M] at D;have f:=C.symm.trans M;injection f with f;injection f with f;injection f with e0 f;injection f with e1 f;injection f with e2 f;injection f with e3 f;injection f with e4 f;injection f with e5 _;subst e0 e1 e2 e3 e4 e5;refine ⟨_,_,_,_,_,_,_,rfl,D,by rw [y];simp,fun u C=>?_,fun Y e j u d=>?_⟩
  ·simp at C
   rcases C with rfl | rfl | rfl | rfl | rfl | rfl<;>rfl
  ·rw [y] at e
   injection e with e;subst e
   match j,d with
   | 0,d=>simp at d;subst d;exact N
   | 1,d=>simp at d;subst d;rw [← D6_ _ _ 1 x38_];exact c1
   | 2,d=>simp at d;subst d;rw [← D6_ _ _ 2 x38_];exact c2
   | 3,d=>simp at d;subst d;rw [← D6_ _ _ 3 x38_];exact c3
   | 4,d=>simp at d;subst d;rw [← D6_ _ _ 4 x38_];exact c4
   | 5,d=>simp at d;subst d;rw [← D6_ _ _ 5 x38_];exact c5)
 have H:∀ k,(if k<i.length then q k else [.nilIface,.nilIface,.nilIface,.nilIface,.nilIface,.nilIface]).length=6:=fun k=>by
  split
  ·rename_i z
   obtain ⟨g,m,o,r,s,v,y,_⟩:=E k z;rw [y];rfl
  ·rfl
 refine ⟨fun k=>if k<i.length then q k else [.nilIface,.nilIface,.nilIface,.nilIface,.nilIface,.nilIface],⟨H,fun k z=>?_⟩,rfl,fun F=>⟨T.2.2 F,?_⟩,fun x F j u d=>?_,fun u C=>?_⟩
 ·obtain ⟨g,m,o,r,s,v,y,K,_⟩:=E k z
  exact ⟨g,m,o,r,s,v,(if_pos z).trans y,K⟩
 ·rcases Nat.eq_zero_or_pos i.length with G | G
  ·exact List.eq_nil_of_length_eq_zero G
  ·obtain ⟨g,m,o,r,s,v,y,K,h3,_⟩:=E 0 G
   exact absurd F h3
 ·have x6:j<i.length * 6:=by
   have:=(List.getElem?_eq_some_iff.1 d).1
   rwa [K8_ H] at this
  have I:j / 6<i.length:=x37_;have J:j=j / 6 * 6+j % 6:=x37_;rw [J,Zs1 H _ _ _ I x37_,if_pos I] at d;obtain ⟨g,m,o,r,s,v,_,_,_,_,O⟩:=E (j / 6) I;rw [J];exact O x F _ u d
 ·unfold flat6 at C
  obtain ⟨k,R,L⟩:=List.mem_flatMap.1 C;have z:=List.mem_range.1 R;rw [if_pos z] at L;obtain ⟨g,m,o,r,s,v,_,_,_,D,_⟩:=E k z;exact D u L
theorem T8_ {w:World} {base B:Nat} {v:Value} {S:Nat→List Value} {i:List Mat} (h:w.ownsRow base 37 6 v i.length (flat6 S i.length)) (c:SixM w B S i) (q:B≤w.heap.size):MatL w w.heap.size v i:=by
 rcases h.2 with ⟨rfl,m⟩ | ⟨g,f,G,rfl,hb,H,r,s,_⟩
 ·have:i=[]:=List.eq_nil_of_length_eq_zero m
  subst this;exact MatL.nil_ _ _
 ·refine ⟨some ⟨g,0,none⟩,f,rfl,⟨r,s,fun e=>by cases e⟩,fun k d=>?_⟩
  obtain ⟨z,A,C,D,E,F,o,p⟩:=c.2 k d;have hc:∀ j u,j<6→(S k)[j]?=some u→w.cell? ((⟨g,0,none⟩:Addr).add (k * 6+j))=some u:=fun j u x y =>
   h.cells (g:=g) rfl (k * 6+j) u (by rw [Zs1 c.1 _ _ _ d x];exact y)
  rw [o] at hc;refine ⟨⟨g,0,none⟩,_,rfl,(h.lt g rfl).2,⟨z,A,C,D,E,F,rfl,hc 0 _ x38_ rfl,?_,?_,?_,?_,?_⟩,p.mono q⟩
  ·rw [D6_ _ _ 1 x38_];exact hc 1 _ x38_ rfl
  ·rw [D6_ _ _ 2 x38_];exact hc 2 _ x38_ rfl
  ·rw [D6_ _ _ 3 x38_];exact hc 3 _ x38_ rfl
  ·rw [D6_ _ _ 4 x38_];exact hc 4 _ x38_ rfl
  ·rw [D6_ _ _ 5 x38_];exact hc 5 _ x38_ rfl
theorem C5_ {w:World} {y:Array Oper} {rest:List Oper} {o:Oper} {a:Act} {Q:Exit→Act→World→Prop} (g:o.guard=none) (s x:Operand)
  (p:o.op=.call { callee:=.builtin .append,args:=#[s,x],argTypes:=#[22, 22] })
  (base n k:Nat) (v:Value) (us ts:List Value) (A:Option Addr) (c:Nat) (hs:a.eval s=v) (q:a.eval x=.slice A k c) (f:w.ownsRow base 37 6 v n us) (hl:ts.length=k * 6)
  (C:∀ d,A=some d→∀ j u,ts[j]?=some u→w.cell? (d.add j)=some u) (E:∀ u∈ts,u.oneCell'=true) (D:A=none→k=0∧c=0) (J:n≤1048576) (I:k≤1048576) (hb:base≤w.heap.size)
  (h:∀ e w',w'.ownsRow base 37 6 e (n+k) (us ++ ts)→w.grownBy w' v.ownBlock→wpList Tryz.prog y Q rest (a.put o.dst e) w'):wpList Tryz.prog y Q (o :: rest) a w:=by
 obtain ⟨r,m,F,G,H⟩:=info_parts Xo3;cases A with
 | some d =>
  refine wpList_append_own w g s x _ p base 37 r (.agg #[.int .i64 0,.int .i64 0,.int .i64 0,.int .i64 0,.slice none 0 0,.slice none 0 0]) 6 80 y37_ m F G H rfl x38_ v n us hs f d k c ts q hl (C d rfl) E z38_ x37_ hb ?_;intro e w' z B _;exact h e w' z B
 | none =>
  obtain ⟨rfl,rfl⟩:=D rfl;have:ts=[]:=List.eq_nil_of_length_eq_zero x37_;subst this;refine wpList_append_own_none g s x _ p base 37 r 6 y37_ m v n us hs f q ?_;exact h v w (by rw [List.append_nil];exact f) ⟨rfl,rfl,rfl,Nat.le_refl _,fun _ _ _=>rfl⟩
theorem V9_ {w:World} {f:Array Oper} {o:Oper} {a:Act} {K:Act→World→Prop} {Q:Exit→Act→World→Prop} {E:Prop} (q:o.guard=none) (s x:Operand)
  (y:o.op=.call { callee:=.builtin .append,args:=#[s,x],argTypes:=#[22, 22] })
  (base n k:Nat) (v:Value) (us ts:List Value) (e:Addr) (c:Nat) (hs:a.eval s=v) (D:a.eval x=.slice (some e) k c) (B:w.ownsRow base 37 6 v n us) (hl:ts.length=k * 6)
  (p:∀ j u,ts[j]?=some u→w.cell? (e.add j)=some u) (z:∀ u∈ts,u.oneCell'=true) (L:n≤1048576) (J:k≤1048576) (hb:base≤w.heap.size)
  (h:∀ d w',w'.ownsRow base 37 6 d (n+k) (us ++ ts)→w.grownBy w' v.ownBlock→K (a.put o.dst d) w'):if Region.wanted o (yielded f a.tmps)=true then Oper.wp Tryz.prog o a w K Q else E:=by
 have C:Region.wanted o (yielded f a.tmps)=true:=by simp [Region.wanted,q]
 rw [if_pos C];obtain ⟨I,r,F,G,H⟩:=info_parts Xo3;exact wp_append_own w s x _ y base 37 I (.agg #[.int .i64 0,.int .i64 0,.int .i64 0,.int .i64 0,.slice none 0 0,.slice none 0 0]) 6 80 y37_ r F G H rfl x38_ v n us hs B e k c ts D hl p z z38_ x37_ hb fun d w' g m _=>h d w' g m
end Go.Proofs.YtheeajnkiniopaaGreatDoor.Wp
