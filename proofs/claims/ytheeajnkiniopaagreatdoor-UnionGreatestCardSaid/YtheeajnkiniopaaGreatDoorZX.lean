/- Edges, and rows of rows, that the call itself makes, by append (VOwn). The document's Mod, Pow and Inv of layer 4, walked (VMR). -/
import Derived.Test.YtheeajnkiniopaaGreatDoorIJRef
import Derived.Test.YtheeajnkiniopaaGreatDoorZA
import Derived.Laws.AppendOwnNone
import Derived.Maps.AppendAt
import Derived.Test.YtheeajnkiniopaaGreatDoorQTA
import Derived.Deep.RegionWith
import Derived.Test.YtheeajnkiniopaaGreatDoorX0A
import Derived.Test.YtheeajnkiniopaaGreatDoorX0B
set_option maxHeartbeats 2000000
set_option maxRecDepth 100000
open Go.Lib (hid)
namespace Go.Proofs.YtheeajnkiniopaaGreatDoor.Wp
private theorem q8_ {P:Prop} (h:P:=by
 rintro e w1 ⟨rfl,hb1⟩
 go_wp2_with fail
 refine (Hm.out _).mono ?_
 rintro e w2 ⟨rfl,rfl⟩
 go_wp2_with fail
 refine (Hw.out _).mono ?_
 rintro e w3 ⟨rfl,hb3⟩
 have hB3:=Z0_ hb1 (Nat.le_refl _) hb3
 go_wp2
 go_ret2
 exact ⟨rfl,hB3⟩):P:=h
private theorem x15_ {P:Prop} (h:P:=by
 rintro e w1 ⟨rfl,hb1⟩
 go_wp2_with fail
 refine (Hm.out _).mono ?_
 rintro e w2 ⟨rfl,rfl⟩
 go_wp2
 go_ret2
 exact ⟨rfl,hb1⟩):P:=h
open Go.RowKit
def flatE:List (Nat × Nat)→List Value
 | []=>[]
 | e :: r=>.int .i64 (e.1:Int) :: .int .i64 (e.2:Int) :: flatE r
theorem Zj3:∀ (a b:List (Nat × Nat)),flatE (a ++ b)=flatE a ++ flatE b
 | [],b=>rfl
 | e :: a,b=>by simp [flatE,Zj3 a b]
theorem Zx5:∀ (c:List (Nat × Nat)) (k:Nat),k<c.length→(flatE c)[k * 2]?=some (.int .i64 ((c.getD k (0,0)).1:Int))∧(flatE c)[k * 2+1]?=some (.int .i64 ((c.getD k (0,0)).2:Int))
 | [],k,h=>absurd h j37_
 | e :: r,0,_=>by simp [flatE,List.getD]
 | e :: r,k+1,h=>by
  have f:=Zx5 r k (by simp at h;omega);have d:(k+1) * 2=k * 2+1+1:=x37_;rw [d];simp only [flatE,List.getElem?_cons_succ,List.getD_cons_succ];exact f
theorem Va3 (a:Addr) (j:Nat):(⟨(a.add j).block,(a.add j).off+1,none⟩:Addr)=a.add (j+1):=by
 unfold Addr.add;by_cases c:j=0
 ·subst c;simp
 ·simp [c,Nat.add_assoc]
theorem Jx2:(Tryz.prog.info? 116).map (fun i=>(i.zero,i.size,i.bytes))=some (some (.agg #[.int .i64 0,.int .i64 0]),2,16):=y37_
def OwnE (w:World) (base:Nat) (v:Value) (ns:List (Nat × Nat)):Prop:=w.ownsRow base 116 2 v ns.length (flatE ns)
theorem OwnE.edges {w:World} {base:Nat} {v:Value} {d:List (Nat × Nat)} (h:OwnE w base v d):Edges w w.heap.size v (castE d):=by
 rcases h.2 with ⟨rfl,j⟩ | ⟨g,f,p,rfl,hb,q,m,o,_⟩
 ·have:d=[]:=List.eq_nil_of_length_eq_zero j
  subst this;exact ⟨none,0,rfl,⟨Nat.le_refl _,x38_,fun _=>rfl⟩,fun k c=>absurd c (by simp [castE])⟩
 ·refine ⟨_,f,by rw [V1_],⟨by rw [V1_];exact m,o,fun e=>by cases e⟩,fun k c=>⟨⟨g,0,none⟩,rfl,(World.ownsRow.lt h g rfl).2,?_,?_⟩⟩
  ·rw [V1_] at c
   rw [I8_];exact World.ownsRow.cells h (g:=g) rfl _ _ (Zx5 d k c).1
  ·rw [V1_] at c
   rw [I8_,Va3];exact World.ownsRow.cells h (g:=g) rfl _ _ (Zx5 d k c).2
theorem OwnE.slice {w:World} {base:Nat} {v:Value} {d:List (Nat × Nat)} (h:OwnE w base v d):∃ A c,v=.slice A d.length c:=by
 rcases h.2 with ⟨rfl,e⟩ | ⟨g,c,_,f,_⟩
 ·exact ⟨none,0,by rw [e]⟩
 ·exact ⟨_,c,f⟩
open Go.RowKit
theorem Yg1 {a p:Int} (c:1≤p) (f:p≤2147483647):(wrap64 (a.tmod p+p)).tmod p=a % p:=by
 have hb:=em_lt (a:=a) c;by_cases d:a.tmod p<0
 ·rw [Vc5 c d,show wrap64 (a % p)=a % p from by unfold wrap64;omega,Yi7 c (by rw [Int.tmod_eq_emod,if_pos (.inl hb.1),Int.emod_emod];omega),Int.emod_emod]
 ·have e:=Yi7 c (Int.not_lt.1 d)
  rw [e,show wrap64 (a % p+p)=a % p+p from by unfold wrap64;omega,Yi7 c (by rw [Int.tmod_eq_emod,if_pos (.inl x37_)];have:=em_lt (a:=a % p+p) c;omega),Int.add_emod_right,Int.emod_emod]
theorem R4_ (a p:Int) (w:World):Calls Tryz.prog 198 #[.int .i64 a,.int .i64 p] w fun e w'=>e=.returned (.int .i64 (modI a p))∧w'=w:=by
 unfold modI;by_cases h:In31 p
 ·rw [if_pos h]
  obtain ⟨c,d⟩:=h;have hs:=Yg1 (a:=a) c d;have j:¬ p<1:=x37_;have k:¬ (2147483647:Int)<p:=x37_;have g:¬ p=0:=x37_;exact k31_
 ·rw [if_neg h]
  by_cases c:p<1
  ·clear h
   exact k31_
  ·have d:2147483647<p:=by unfold In31 at h;omega
   clear h;exact k31_
theorem Xx9 {u s m p:Nat} (h:m % 2=1):(u * s % p) * (s * s % p) ^ (m / 2) % p=u * s ^ m % p:=by
 have e:m=2 * (m / 2)+1:=x37_;rw [Zx8 (G4_ (u * s) p) (N0_ (G4_ (s * s) p))];congr 1
 conv=>rhs;rw [e,Nat.pow_succ,Nat.pow_mul,Nat.pow_two]
 rw [Nat.mul_assoc,Nat.mul_comm s]
theorem Yg2 {u s m p:Nat} (h:m % 2=0):u * (s * s % p) ^ (m / 2) % p=u * s ^ m % p:=by
 have e:m=2 * (m / 2):=x37_;rw [Zx8 rfl (N0_ (G4_ (s * s) p))];congr 1
 conv=>rhs;rw [e,Nat.pow_mul,Nat.pow_two]
theorem Xn0 (a:Int) (n P:Nat) (w:World) (C:1≤P) (K:P≤2147483647) (hn:n≤9223372036854775807) :
  Calls Tryz.prog 207 #[.int .i64 a,.int .i64 n,.int .i64 P] w (Gets w (.int .i64 ((a % P).toNat ^ n % P:Nat))):=by
 obtain ⟨x,E⟩:∃ x:Nat,a % (P:Int)=x:=⟨(a % P).toNat,by have:=em_lt (a:=a) (p:=P) x37_;omega⟩;have U:x<P:=by have:=em_lt (a:=a) (p:=P) x37_;omega
 rw [E,Int.toNat_natCast];have F:=hid (fun w=>R4_ a P w);have G:modI a (P:Int)=x:=by unfold modI;rw [if_pos ⟨x37_,x37_⟩,E]
 rw [G] at F;clear E G;obtain ⟨r,c⟩:∃ r,r=x ^ n % P:=⟨_,rfl⟩;rw [← c];obtain ⟨k,v⟩:∃ k,k=1 % P:=⟨_,rfl⟩;have R:(1:Int).tmod (P:Int)=(k:Int):=by rw [v];exact Zt7 1 P
 have T:k<P:=by rw [v];exact Nat.mod_lt _ C
 have N:=hid (show r=k * x ^ n % P from by
  have e:=Zx8 (n:=P) (G4_ 1 P) (show x ^ n % P=x ^ n % P from rfl);rw [Nat.one_mul] at e;rw [c,v,e])
 clear c v;have W:¬ (P:Int)<1:=x37_;have X:¬ (2147483647:Int)<(P:Int):=x37_;have h3:¬ (n:Int)<0:=x37_;have Y:¬ (P:Int)=0:=x37_;have Z:¬ P=0:=x37_
 go_enter Tryz.func207,Tryz.ntmps207
 go_wp2_with fail
 go_region_with (go_at_call 198;refine (F.out _).mono ?_;rintro e w1 ⟨rfl,rfl⟩)
 all_goals (clear R;go_simp)
 all_goals go_wp2
 all_goals
  go_loopw [1,7,8] (fun vn V vs wr=>∃ m u s:Nat,vn=.int .i64 m∧V=.int .i64 u∧vs=.int .i64 s∧m≤n∧u<P∧s<P∧r=u * s ^ m % P∧Below w.heap.size w wr) (fun vn _ _ _=>(intOf vn).toNat)
  case atStart=>exact ⟨n,k,x,rfl,rfl,rfl,Nat.le_refl _,T,U,N.out,(Below.refl _ _).drew⟩
  case round =>
   obtain ⟨m,u,s,rfl,rfl,rfl,J,D,hs,c,H⟩:=hrel;have Hbr:=hid H;clear H;by_cases O:m=0
   ·subst O
    have Q:u=r:=by rw [c,Nat.pow_zero,Nat.mul_one,Nat.mod_eq_of_lt D]
    subst Q;clear c;exact z13_
   ·have x0:0<(m:Int):=by omega
    have j:m / 2<m:=Nat.div_lt_self x37_ x38_;have M:(m:Int).tmod 2=((m % 2:Nat):Int):=Zt7 m 2;have I:(m:Int).tdiv 2=((m / 2:Nat):Int):=rfl;obtain ⟨h,g⟩:∃ h,h=m / 2:=⟨_,rfl⟩;obtain ⟨o,hs'⟩:∃ o,o=s * s % P:=⟨_,rfl⟩;have m2:=Zt8 hs hs K hs'.symm;have L:o<P:=by rw [hs'];exact Nat.mod_lt _ C
    rcases Nat.mod_two_eq_zero_or_one m with z | B;rotate_left
    ·obtain ⟨u',q⟩:∃ u',u'=u * s % P:=⟨_,rfl⟩
     have m1:=Zt8 D hs K q.symm;have S:u'<P:=by rw [q];exact Nat.mod_lt _ C
     have d:=Xx9 (u:=u) (s:=s) (p:=P) B;rw [← q,← hs',← g] at d;have y:=hid (c.trans d.symm);rw [B,show ((1:Nat):Int)=1 from rfl] at M;rw [← g] at I j;clear d c q hs' g B;go_wp2
     go_roundw
     case rel=>exact ⟨h,u',o,rfl,rfl,rfl,Nat.le_trans (Nat.le_of_lt j) J,S,L,y.out,Hbr.out⟩
     case measure=>simpa [intOf] using j
    ·have d:=Yg2 (u:=u) (s:=s) (p:=P) z
     rw [← hs',← g] at d;have y:=hid (c.trans d.symm);rw [z,show ((0:Nat):Int)=0 from rfl] at M;rw [← g] at I j;clear d c hs' g z;go_wp2
     go_roundw
     case rel=>exact ⟨h,u,o,rfl,rfl,rfl,Nat.le_trans (Nat.le_of_lt j) J,D,L,y.out,Hbr.out⟩
     case measure=>simpa [intOf] using j
theorem Xn1 (a n p:Int) (w:World) (h:¬ (In31 p∧0≤n)):Calls Tryz.prog 207 #[.int .i64 a,.int .i64 n,.int .i64 p] w (Gets w (.int .i64 0)):=by
 by_cases c:p<1
 ·exact k9_
 ·by_cases d:2147483647<p
  ·exact k9_
  ·have e:n<0:=by unfold In31 at h;omega
   clear h;exact k9_
theorem Xv0 (a n p:Int) (w:World) (g:n≤9223372036854775807):Calls Tryz.prog 207 #[.int .i64 a,.int .i64 n,.int .i64 p] w (Gets w (.int .i64 (powI a n p))):=by
 unfold powI;by_cases h:In31 p∧0≤n
 ·rw [if_pos h]
  obtain ⟨⟨d,e⟩,c⟩:=h;obtain ⟨P,rfl⟩:∃ P:Nat,p=P:=⟨p.toNat,x37_⟩;obtain ⟨N,rfl⟩:∃ N:Nat,n=N:=⟨n.toNat,x37_⟩;exact Xn0 a N P w x37_ x37_ x37_
 ·rw [if_neg h]
  exact Xn1 a n p w h
open Go.RowKit
theorem Xv1 (a p:Int) (w:World):Calls Tryz.prog 197 #[.int .i64 a,.int .i64 p] w (Gets w (.tuple #[.int .i64 (invI a p),.bool (invB a p)])):=by
 rcases hp:prB p with _ | _
 ·have c:=Xa1 (a:=a) hp
  rw [Zm7 c,c];have d:=hid (fun w=>O4_ p w);rw [hp] at d;clear c hp
  go_enter Tryz.func197,Tryz.ntmps197
  go_wp2_with fail
  refine (d.out _).mono ?_;rintro e w1 ⟨rfl,hb1⟩;go_wp2
  go_ret2
  exact ⟨rfl,hb1⟩
 ·have d:=hid (fun w=>O4_ p w)
  rw [hp] at d;have h:=prB_iff.1 hp;have k:p≤2147483647:=h.2.1;by_cases g:modI a p=0
  ·have c:=Zt9 hp g
   rw [Zm7 c,c];have Hm:=hid (fun w=>R4_ a p w);rw [g] at Hm;clear c hp g h
   go_enter Tryz.func197,Tryz.ntmps197
   go_wp2_with fail
   refine (d.out _).mono ?_;exact x15_
  ·have c:=Zm6 hp g
   rw [Zm8 c,c];have Hm:=hid (fun w=>R4_ a p w);have Hw:=hid (fun w=>Xv0 a (p - 2) p w x37_);have j:=h.1;have o:wrap64 (p - 2)=p - 2:=by unfold wrap64;omega
   generalize modI a p=m at *
   generalize powI a (p - 2) p=y at *
   clear c hp h
   go_enter Tryz.func197,Tryz.ntmps197
   go_wp2_with fail
   refine (d.out _).mono ?_;exact q8_
end Go.Proofs.YtheeajnkiniopaaGreatDoor.Wp
