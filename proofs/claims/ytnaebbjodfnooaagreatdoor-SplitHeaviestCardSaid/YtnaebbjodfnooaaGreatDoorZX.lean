/- Edges, and rows of rows, that the call itself makes, by append (VOwn). The document's Mod, Pow and Inv of layer 4, walked (VMR). -/
import Derived.Test.YtnaebbjodfnooaaGreatDoorIJRef
import Derived.Test.YtnaebbjodfnooaaGreatDoorGPlaces
import Derived.Laws.AppendOwnNone
import Derived.Maps.AppendAt
import Derived.Test.YtnaebbjodfnooaaGreatDoorQTA
import Derived.Deep.RegionWith
import Derived.Test.YtnaebbjodfnooaaGreatDoorX0A
import Derived.Test.YtnaebbjodfnooaaGreatDoorX0C
set_option maxHeartbeats 2000000
set_option maxRecDepth 100000
open Go.Lib (hid)
namespace Go.Proofs.YtnaebbjodfnooaaGreatDoor.Wp
private theorem q8_ {P:Prop} (h:P:=by
 rintro e w1 ⟨rfl,hb1⟩
 go_wp2_with fail
 refine (Hm.out _).mono ?_
 rintro e w2 ⟨rfl,rfl⟩
 go_wp2_with fail
 refine (Hw.out _).mono ?_
 rintro e w3 ⟨rfl,hb3⟩
 have hB3:=Z0_ hb1 (Nat.le_refl _) hb3
 go_wp2
 go_ret2
 exact ⟨rfl,hB3⟩):P:=h
private theorem j14_ {P:Prop} (h:P:=by
 rintro e w1 ⟨rfl,hb1⟩
 go_wp2_with fail
 refine (Hm.out _).mono ?_
 rintro e w2 ⟨rfl,rfl⟩
 go_wp2
 go_ret2
 exact ⟨rfl,hb1⟩):P:=h
open Go.RowKit
def flatE:List (Nat × Nat)→List Value
 | []=>[]
 | e :: r=>.int .i64 (e.1:Int) :: .int .i64 (e.2:Int) :: flatE r
theorem Zv7:∀ (a b:List (Nat × Nat)),flatE (a ++ b)=flatE a ++ flatE b
 | [],b=>rfl
 | e :: a,b=>by simp [flatE,Zv7 a b]
theorem Zy3:∀ (c:List (Nat × Nat)) (k:Nat),k<c.length→(flatE c)[k * 2]?=some (.int .i64 ((c.getD k (0,0)).1:Int))∧(flatE c)[k * 2+1]?=some (.int .i64 ((c.getD k (0,0)).2:Int))
 | [],k,h=>absurd h j37_
 | e :: r,0,_=>by simp [flatE,List.getD]
 | e :: r,k+1,h=>by
  have f:=Zy3 r k (by simp at h;omega);have d:(k+1) * 2=k * 2+1+1:=x37_;rw [d];simp only [flatE,List.getElem?_cons_succ,List.getD_cons_succ];exact f
theorem Vv2 (a:Addr) (j:Nat):(⟨(a.add j).block,(a.add j).off+1,none⟩:Addr)=a.add (j+1):=by
 unfold Addr.add;by_cases c:j=0
 ·subst c;simp
 ·simp [c,Nat.add_assoc]
theorem Jy9:(Tryz.prog.info? 99).map (fun i=>(i.zero,i.size,i.bytes))=some (some (.agg #[.int .i64 0,.int .i64 0]),2,16):=y37_
def OwnE (w:World) (base:Nat) (v:Value) (ns:List (Nat × Nat)):Prop:=w.ownsRow base 99 2 v ns.length (flatE ns)
theorem OwnE.edges {w:World} {base:Nat} {v:Value} {d:List (Nat × Nat)} (h:OwnE w base v d):Edges w w.heap.size v (castE d):=by
 rcases h.2 with ⟨rfl,j⟩ | ⟨g,f,p,rfl,hb,q,m,o,_⟩
 ·have:d=[]:=List.eq_nil_of_length_eq_zero j
  subst this;exact ⟨none,0,rfl,⟨Nat.le_refl _,q38_,fun _=>rfl⟩,fun k c=>absurd c (by simp [castE])⟩
 ·refine ⟨_,f,by rw [V3_],⟨by rw [V3_];exact m,o,fun e=>by cases e⟩,fun k c=>⟨⟨g,0,none⟩,rfl,(World.ownsRow.lt h g rfl).2,?_,?_⟩⟩
  ·rw [V3_] at c
   rw [K7_];exact World.ownsRow.cells h (g:=g) rfl _ _ (Zy3 d k c).1
  ·rw [V3_] at c
   rw [K7_,Vv2];exact World.ownsRow.cells h (g:=g) rfl _ _ (Zy3 d k c).2
theorem OwnE.slice {w:World} {base:Nat} {v:Value} {d:List (Nat × Nat)} (h:OwnE w base v d):∃ A c,v=.slice A d.length c:=by
 rcases h.2 with ⟨rfl,e⟩ | ⟨g,c,_,f,_⟩
 ·exact ⟨none,0,by rw [e]⟩
 ·exact ⟨_,c,f⟩
theorem W0_ {w w':World} {base:Nat} {e:TypeId} {c:Nat} {v:Value} {n:Nat} {d:List Value} (h:w.ownsRow base e c v n d) (hb:Below w.heap.size w w'):w'.ownsRow base e c v n d :=
 h.kept (Z8_ hb none) (by
  rcases v.ownBlock with _ | q
  ·exact .inl rfl
  ·exact .inr j37_)
open Go.RowKit
theorem Yf7 {a p:Int} (c:1≤p) (f:p≤2147483647):(wrap64 (a.tmod p+p)).tmod p=a % p:=by
 have hb:=em_lt (a:=a) c;by_cases d:a.tmod p<0
 ·rw [Ve0 c d,show wrap64 (a % p)=a % p from by unfold wrap64;omega,Yl7 c (by rw [Int.tmod_eq_emod,if_pos (.inl hb.1),Int.emod_emod];omega),Int.emod_emod]
 ·have e:=Yl7 c (Int.not_lt.1 d)
  rw [e,show wrap64 (a % p+p)=a % p+p from by unfold wrap64;omega,Yl7 c (by rw [Int.tmod_eq_emod,if_pos (.inl x37_)];have:=em_lt (a:=a % p+p) c;omega),Int.add_emod_right,Int.emod_emod]
theorem P9_ (a p:Int) (w:World):Calls Tryz.prog 144 #[.int .i64 a,.int .i64 p] w fun e w'=>e=.returned (.int .i64 (modI a p))∧w'=w:=by
 unfold modI;by_cases h:In31 p
 ·rw [if_pos h]
  obtain ⟨c,d⟩:=h;have hs:=Yf7 (a:=a) c d;have j:¬ p<1:=x37_;have k:¬ (2147483647:Int)<p:=x37_;have g:¬ p=0:=x37_;exact j31_
 ·rw [if_neg h]
  by_cases c:p<1
  ·clear h
   exact j31_
  ·have d:2147483647<p:=by unfold In31 at h;omega
   clear h;exact j31_
theorem Xy5 {u s m p:Nat} (h:m % 2=1):(u * s % p) * (s * s % p) ^ (m / 2) % p=u * s ^ m % p:=by
 have e:m=2 * (m / 2)+1:=x37_;rw [Zx4 (G9_ (u * s) p) (N4_ (G9_ (s * s) p))];congr 1
 conv=>rhs;rw [e,Nat.pow_succ,Nat.pow_mul,Nat.pow_two]
 rw [Nat.mul_assoc,Nat.mul_comm s]
theorem Yf8 {u s m p:Nat} (h:m % 2=0):u * (s * s % p) ^ (m / 2) % p=u * s ^ m % p:=by
 have e:m=2 * (m / 2):=x37_;rw [Zx4 rfl (N4_ (G9_ (s * s) p))];congr 1
 conv=>rhs;rw [e,Nat.pow_mul,Nat.pow_two]
theorem Xi1 (a:Int) (n P:Nat) (w:World) (C:1≤P) (L:P≤2147483647) (hn:n≤9223372036854775807) :
  Calls Tryz.prog 165 #[.int .i64 a,.int .i64 n,.int .i64 P] w (Gets w (.int .i64 ((a % P).toNat ^ n % P:Nat))):=by
 obtain ⟨x,E⟩:∃ x:Nat,a % (P:Int)=x:=⟨(a % P).toNat,by have:=em_lt (a:=a) (p:=P) x37_;omega⟩;have V:x<P:=by have:=em_lt (a:=a) (p:=P) x37_;omega
 rw [E,Int.toNat_natCast];have G:=hid (fun w=>P9_ a P w);have H:modI a (P:Int)=x:=by unfold modI;rw [if_pos ⟨x37_,x37_⟩,E]
 rw [H] at G;clear E H;obtain ⟨r,c⟩:∃ r,r=x ^ n % P:=⟨_,rfl⟩;rw [← c];obtain ⟨k,v⟩:∃ k,k=1 % P:=⟨_,rfl⟩;have S:(1:Int).tmod (P:Int)=(k:Int):=by rw [v];exact Zw6 1 P
 have U:k<P:=by rw [v];exact Nat.mod_lt _ C
 have O:=hid (show r=k * x ^ n % P from by
  have e:=Zx4 (n:=P) (G9_ 1 P) (show x ^ n % P=x ^ n % P from rfl);rw [Nat.one_mul] at e;rw [c,v,e])
 clear c v;have Y:¬ (P:Int)<1:=x37_;have Z:¬ (2147483647:Int)<(P:Int):=x37_;have h3:¬ (n:Int)<0:=x37_;have h4:¬ (P:Int)=0:=x37_;have h5:¬ P=0:=x37_
 go_enter Tryz.func165,Tryz.ntmps165
 go_wp2_with fail
 go_region_with (go_at_call 144;refine (G.out _).mono ?_;rintro e w1 ⟨rfl,rfl⟩)
 all_goals (clear S;go_simp)
 all_goals go_wp2
 all_goals
  go_loopw [1,7,8] (fun F X W wr=>∃ m u s:Nat,F=.int .i64 m∧X=.int .i64 u∧W=.int .i64 s∧m≤n∧u<P∧s<P∧r=u * s ^ m % P∧Below w.heap.size w wr) (fun F _ _ _=>(intOf F).toNat)
  case atStart=>exact ⟨n,k,x,rfl,rfl,rfl,Nat.le_refl _,U,V,O.out,(Below.refl _ _).drew⟩
  case round =>
   obtain ⟨m,u,s,rfl,rfl,rfl,K,D,hs,c,I⟩:=hrel;have Hbr:=hid I;clear I;by_cases Q:m=0
   ·subst Q
    have R:u=r:=by rw [c,Nat.pow_zero,Nat.mul_one,Nat.mod_eq_of_lt D]
    subst R;clear c;exact k11_
   ·have x0:0<(m:Int):=by omega
    have j:m / 2<m:=Nat.div_lt_self x37_ q38_;have N:(m:Int).tmod 2=((m % 2:Nat):Int):=Zw6 m 2;have J:(m:Int).tdiv 2=((m / 2:Nat):Int):=rfl;obtain ⟨h,g⟩:∃ h,h=m / 2:=⟨_,rfl⟩;obtain ⟨o,hs'⟩:∃ o,o=s * s % P:=⟨_,rfl⟩;have m2:=Zw7 hs hs L hs'.symm;have M:o<P:=by rw [hs'];exact Nat.mod_lt _ C
    rcases Nat.mod_two_eq_zero_or_one m with z | B;rotate_left
    ·obtain ⟨u',q⟩:∃ u',u'=u * s % P:=⟨_,rfl⟩
     have m1:=Zw7 D hs L q.symm;have T:u'<P:=by rw [q];exact Nat.mod_lt _ C
     have d:=Xy5 (u:=u) (s:=s) (p:=P) B;rw [← q,← hs',← g] at d;have y:=hid (c.trans d.symm);rw [B,show ((1:Nat):Int)=1 from rfl] at N;rw [← g] at J j;clear d c q hs' g B;go_wp2
     go_roundw
     case rel=>exact ⟨h,u',o,rfl,rfl,rfl,Nat.le_trans (Nat.le_of_lt j) K,T,M,y.out,Hbr.out⟩
     case measure=>simpa [intOf] using j
    ·have d:=Yf8 (u:=u) (s:=s) (p:=P) z
     rw [← hs',← g] at d;have y:=hid (c.trans d.symm);rw [z,show ((0:Nat):Int)=0 from rfl] at N;rw [← g] at J j;clear d c hs' g z;go_wp2
     go_roundw
     case rel=>exact ⟨h,u,o,rfl,rfl,rfl,Nat.le_trans (Nat.le_of_lt j) K,D,M,y.out,Hbr.out⟩
     case measure=>simpa [intOf] using j
theorem Xi2 (a n p:Int) (w:World) (h:¬ (In31 p∧0≤n)):Calls Tryz.prog 165 #[.int .i64 a,.int .i64 n,.int .i64 p] w (Gets w (.int .i64 0)):=by
 by_cases c:p<1
 ·exact j9_
 ·by_cases d:2147483647<p
  ·exact j9_
  ·have e:n<0:=by unfold In31 at h;omega
   clear h;exact j9_
theorem Xy6 (a n p:Int) (w:World) (g:n≤9223372036854775807):Calls Tryz.prog 165 #[.int .i64 a,.int .i64 n,.int .i64 p] w (Gets w (.int .i64 (powI a n p))):=by
 unfold powI;by_cases h:In31 p∧0≤n
 ·rw [if_pos h]
  obtain ⟨⟨d,e⟩,c⟩:=h;obtain ⟨P,rfl⟩:∃ P:Nat,p=P:=⟨p.toNat,x37_⟩;obtain ⟨N,rfl⟩:∃ N:Nat,n=N:=⟨n.toNat,x37_⟩;exact Xi1 a N P w x37_ x37_ x37_
 ·rw [if_neg h]
  exact Xi2 a n p w h
open Go.RowKit
theorem Xy7 (a p:Int) (w:World):Calls Tryz.prog 143 #[.int .i64 a,.int .i64 p] w (Gets w (.tuple #[.int .i64 (invI a p),.bool (invB a p)])):=by
 rcases hp:prB p with _ | _
 ·have hB:=Xc4 (a:=a) hp
  rw [Zn4 hB,hB];have c:=hid (fun w=>O1_ p w);rw [hp] at c;clear hB hp
  go_enter Tryz.func143,Tryz.ntmps143
  go_wp2_with fail
  refine (c.out _).mono ?_;rintro e w1 ⟨rfl,hb1⟩;go_wp2
  go_ret2
  exact ⟨rfl,hb1⟩
 ·have c:=hid (fun w=>O1_ p w)
  rw [hp] at c;have g:=prB_iff.1 hp;have j:p≤2147483647:=g.2.1;by_cases d:modI a p=0
  ·have hB:=Zw8 hp d
   rw [Zn4 hB,hB];have Hm:=hid (fun w=>P9_ a p w);rw [d] at Hm;clear hB hp d g
   go_enter Tryz.func143,Tryz.ntmps143
   go_wp2_with fail
   refine (c.out _).mono ?_;exact j14_
  ·have hB:=Zn3 hp d
   rw [Zn5 hB,hB];have Hm:=hid (fun w=>P9_ a p w);have Hw:=hid (fun w=>Xy6 a (p - 2) p w x37_);have h:=g.1;have k:wrap64 (p - 2)=p - 2:=by unfold wrap64;omega
   generalize modI a p=m at *
   generalize powI a (p - 2) p=y at *
   clear hB hp g
   go_enter Tryz.func143,Tryz.ntmps143
   go_wp2_with fail
   refine (c.out _).mono ?_;exact q8_
end Go.Proofs.YtnaebbjodfnooaaGreatDoor.Wp
