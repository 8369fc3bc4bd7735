/- The document's Mod, Pow and Inv of layer 4, walked (VMR). Edges, and rows of rows, that the call itself makes, by append (VOwn). -/
import Derived.Test.YteiejkhdonmcdaaGreatDoorQTA
import Derived.Deep.RegionWith
import Derived.Test.YteiejkhdonmcdaaGreatDoorIJRef
import Derived.Test.YteiejkhdonmcdaaGreatDoorZA
import Derived.Laws.AppendOwnNone
import Derived.Maps.AppendAt
import Derived.Test.YteiejkhdonmcdaaGreatDoorX0A
import Derived.Test.YteiejkhdonmcdaaGreatDoorX0B
set_option maxHeartbeats 2000000
set_option maxRecDepth 100000
open Go.Lib (hid)
namespace Go.Proofs.YteiejkhdonmcdaaGreatDoor.Wp
private theorem z10_ {P:Prop} (h:P:=by
 rintro e w1 ⟨rfl,hb1⟩
 go_wp2_with fail
 refine (Hm.out _).mono ?_
 rintro e w2 ⟨rfl,rfl⟩
 go_wp2_with fail
 refine (Hw.out _).mono ?_
 rintro e w3 ⟨rfl,hb3⟩
 have hB3:=Z0_ hb1 (Nat.le_refl _) hb3
 go_wp2
 go_ret2
 exact ⟨rfl,hB3⟩):P:=h
private theorem j16_ {P:Prop} (h:P:=by
 rintro e w1 ⟨rfl,hb1⟩
 go_wp2_with fail
 refine (Hm.out _).mono ?_
 rintro e w2 ⟨rfl,rfl⟩
 go_wp2
 go_ret2
 exact ⟨rfl,hb1⟩):P:=h
end Go.Proofs.YteiejkhdonmcdaaGreatDoor.Wp
namespace Go.Proofs.YteiejkhdonmcdaaGreatDoor
open Go.RowKit
namespace Wp
theorem Yd8 {a p:Int} (c:1≤p) (f:p≤2147483647):(wrap64 (a.tmod p+p)).tmod p=a % p:=by
 have hb:=em_lt (a:=a) c;by_cases d:a.tmod p<0
 ·rw [Vx5 c d,show wrap64 (a % p)=a % p from by unfold wrap64;omega,Yg9 c (by rw [Int.tmod_eq_emod,if_pos (.inl hb.1),Int.emod_emod];omega),Int.emod_emod]
 ·have e:=Yg9 c (Int.not_lt.1 d)
  rw [e,show wrap64 (a % p+p)=a % p+p from by unfold wrap64;omega,Yg9 c (by rw [Int.tmod_eq_emod,if_pos (.inl q39_)];have:=em_lt (a:=a % p+p) c;omega),Int.add_emod_right,Int.emod_emod]
theorem R0_ (a p:Int) (w:World):Calls Tryz.prog 159 #[.int .i64 a,.int .i64 p] w fun e w'=>e=.returned (.int .i64 (modI a p))∧w'=w:=by
 unfold modI;by_cases h:In31 p
 ·rw [if_pos h]
  obtain ⟨c,d⟩:=h;have hs:=Yd8 (a:=a) c d;have j:¬ p<1:=q39_;have k:¬ (2147483647:Int)<p:=q39_;have g:¬ p=0:=q39_;exact z33_
 ·rw [if_neg h]
  by_cases c:p<1
  ·clear h
   exact z33_
  ·have d:2147483647<p:=by unfold In31 at h;omega
   clear h;exact z33_
theorem Yw1 {u s m p:Nat} (h:m % 2=1):(u * s % p) * (s * s % p) ^ (m / 2) % p=u * s ^ m % p:=by
 have e:m=2 * (m / 2)+1:=q39_;rw [Zy8 (H4_ (u * s) p) (N1_ (H4_ (s * s) p))];congr 1
 conv=>rhs;rw [e,Nat.pow_succ,Nat.pow_mul,Nat.pow_two]
 rw [Nat.mul_assoc,Nat.mul_comm s]
theorem Yd9 {u s m p:Nat} (h:m % 2=0):u * (s * s % p) ^ (m / 2) % p=u * s ^ m % p:=by
 have e:m=2 * (m / 2):=q39_;rw [Zy8 rfl (N1_ (H4_ (s * s) p))];congr 1
 conv=>rhs;rw [e,Nat.pow_mul,Nat.pow_two]
theorem Xf9 (a:Int) (n P:Nat) (w:World) (C:1≤P) (L:P≤2147483647) (hn:n≤9223372036854775807) :
  Calls Tryz.prog 184 #[.int .i64 a,.int .i64 n,.int .i64 P] w (Gets w (.int .i64 ((a % P).toNat ^ n % P:Nat))):=by
 obtain ⟨x,E⟩:∃ x:Nat,a % (P:Int)=x:=⟨(a % P).toNat,by have:=em_lt (a:=a) (p:=P) q39_;omega⟩;have V:x<P:=by have:=em_lt (a:=a) (p:=P) q39_;omega
 rw [E,Int.toNat_natCast];have G:=hid (fun w=>R0_ a P w);have H:modI a (P:Int)=x:=by unfold modI;rw [if_pos ⟨q39_,q39_⟩,E]
 rw [H] at G;clear E H;obtain ⟨r,c⟩:∃ r,r=x ^ n % P:=⟨_,rfl⟩;rw [← c];obtain ⟨k,v⟩:∃ k,k=1 % P:=⟨_,rfl⟩;have S:(1:Int).tmod (P:Int)=(k:Int):=by rw [v];exact Zu2 1 P
 have U:k<P:=by rw [v];exact Nat.mod_lt _ C
 have O:=hid (show r=k * x ^ n % P from by
  have e:=Zy8 (n:=P) (H4_ 1 P) (show x ^ n % P=x ^ n % P from rfl);rw [Nat.one_mul] at e;rw [c,v,e])
 clear c v;have Y:¬ (P:Int)<1:=q39_;have Z:¬ (2147483647:Int)<(P:Int):=q39_;have h3:¬ (n:Int)<0:=q39_;have h4:¬ (P:Int)=0:=q39_;have h5:¬ P=0:=q39_
 go_enter Tryz.func184,Tryz.ntmps184
 go_wp2_with fail
 go_region_with (go_at_call 159;refine (G.out _).mono ?_;rintro e w1 ⟨rfl,rfl⟩)
 all_goals (clear S;go_simp)
 all_goals go_wp2
 all_goals
  go_loopw [1,7,8] (fun F X W wr=>∃ m u s:Nat,F=.int .i64 m∧X=.int .i64 u∧W=.int .i64 s∧m≤n∧u<P∧s<P∧r=u * s ^ m % P∧Below w.heap.size w wr) (fun F _ _ _=>(intOf F).toNat)
  case atStart=>exact ⟨n,k,x,rfl,rfl,rfl,Nat.le_refl _,U,V,O.out,(Below.refl _ _).drew⟩
  case round =>
   obtain ⟨m,u,s,rfl,rfl,rfl,K,D,hs,c,I⟩:=hrel;have Hbr:=hid I;clear I;by_cases Q:m=0
   ·subst Q
    have R:u=r:=by rw [c,Nat.pow_zero,Nat.mul_one,Nat.mod_eq_of_lt D]
    subst R;clear c;exact j15_
   ·have x0:0<(m:Int):=by omega
    have j:m / 2<m:=Nat.div_lt_self q39_ x40_;have N:(m:Int).tmod 2=((m % 2:Nat):Int):=Zu2 m 2;have J:(m:Int).tdiv 2=((m / 2:Nat):Int):=rfl;obtain ⟨h,g⟩:∃ h,h=m / 2:=⟨_,rfl⟩;obtain ⟨o,hs'⟩:∃ o,o=s * s % P:=⟨_,rfl⟩;have m2:=Zu3 hs hs L hs'.symm;have M:o<P:=by rw [hs'];exact Nat.mod_lt _ C
    rcases Nat.mod_two_eq_zero_or_one m with z | B;rotate_left
    ·obtain ⟨u',q⟩:∃ u',u'=u * s % P:=⟨_,rfl⟩
     have m1:=Zu3 D hs L q.symm;have T:u'<P:=by rw [q];exact Nat.mod_lt _ C
     have d:=Yw1 (u:=u) (s:=s) (p:=P) B;rw [← q,← hs',← g] at d;have y:=hid (c.trans d.symm);rw [B,show ((1:Nat):Int)=1 from rfl] at N;rw [← g] at J j;clear d c q hs' g B;go_wp2
     go_roundw
     case rel=>exact ⟨h,u',o,rfl,rfl,rfl,Nat.le_trans (Nat.le_of_lt j) K,T,M,y.out,Hbr.out⟩
     case measure=>simpa [intOf] using j
    ·have d:=Yd9 (u:=u) (s:=s) (p:=P) z
     rw [← hs',← g] at d;have y:=hid (c.trans d.symm);rw [z,show ((0:Nat):Int)=0 from rfl] at N;rw [← g] at J j;clear d c hs' g z;go_wp2
     go_roundw
     case rel=>exact ⟨h,u,o,rfl,rfl,rfl,Nat.le_trans (Nat.le_of_lt j) K,D,M,y.out,Hbr.out⟩
     case measure=>simpa [intOf] using j
theorem Xg0 (a n p:Int) (w:World) (h:¬ (In31 p∧0≤n)):Calls Tryz.prog 184 #[.int .i64 a,.int .i64 n,.int .i64 p] w (Gets w (.int .i64 0)):=by
 by_cases c:p<1
 ·exact j12_
 ·by_cases d:2147483647<p
  ·exact j12_
  ·have e:n<0:=by unfold In31 at h;omega
   clear h;exact j12_
theorem Yw2 (a n p:Int) (w:World) (g:n≤9223372036854775807):Calls Tryz.prog 184 #[.int .i64 a,.int .i64 n,.int .i64 p] w (Gets w (.int .i64 (powI a n p))):=by
 unfold powI;by_cases h:In31 p∧0≤n
 ·rw [if_pos h]
  obtain ⟨⟨d,e⟩,c⟩:=h;obtain ⟨P,rfl⟩:∃ P:Nat,p=P:=⟨p.toNat,q39_⟩;obtain ⟨N,rfl⟩:∃ N:Nat,n=N:=⟨n.toNat,q39_⟩;exact Xf9 a N P w q39_ q39_ q39_
 ·rw [if_neg h]
  exact Xg0 a n p w h
open Go.RowKit
theorem Yw3 (a p:Int) (w:World):Calls Tryz.prog 158 #[.int .i64 a,.int .i64 p] w (Gets w (.tuple #[.int .i64 (invI a p),.bool (invB a p)])):=by
 rcases hp:prB p with _ | _
 ·have hB:=Xv6 (a:=a) hp
  rw [Zo0 hB,hB];have c:=hid (fun w=>O2_ p w);rw [hp] at c;clear hB hp
  go_enter Tryz.func158,Tryz.ntmps158
  go_wp2_with fail
  refine (c.out _).mono ?_;rintro e w1 ⟨rfl,hb1⟩;go_wp2
  go_ret2
  exact ⟨rfl,hb1⟩
 ·have c:=hid (fun w=>O2_ p w)
  rw [hp] at c;have g:=prB_iff.1 hp;have j:p≤2147483647:=g.2.1;by_cases d:modI a p=0
  ·have hB:=Zu4 hp d
   rw [Zo0 hB,hB];have Hm:=hid (fun w=>R0_ a p w);rw [d] at Hm;clear hB hp d g
   go_enter Tryz.func158,Tryz.ntmps158
   go_wp2_with fail
   refine (c.out _).mono ?_;exact j16_
  ·have hB:=Zn9 hp d
   rw [Zo1 hB,hB];have Hm:=hid (fun w=>R0_ a p w);have Hw:=hid (fun w=>Yw2 a (p - 2) p w q39_);have h:=g.1;have k:wrap64 (p - 2)=p - 2:=by unfold wrap64;omega
   generalize modI a p=m at *
   generalize powI a (p - 2) p=y at *
   clear hB hp g
   go_enter Tryz.func158,Tryz.ntmps158
   go_wp2_with fail
   refine (c.out _).mono ?_;exact z10_
open Go.RowKit
def flatE:List (Nat × Nat)→List Value
 | []=>[]
 | e :: r=>.int .i64 (e.1:Int) :: .int .i64 (e.2:Int) :: flatE r
theorem O5_:∀ c,(flatE c).length=c.length * 2
 | []=>rfl
 | e :: r=>by
  simp [flatE,O5_ r];omega
theorem O6_:∀ (a b:List (Nat × Nat)),flatE (a ++ b)=flatE a ++ flatE b
 | [],b=>rfl
 | e :: a,b=>by simp [flatE,O6_ a b]
theorem R1_:∀ (c:List (Nat × Nat)) (k:Nat),k<c.length→(flatE c)[k * 2]?=some (.int .i64 ((c.getD k (0,0)).1:Int))∧(flatE c)[k * 2+1]?=some (.int .i64 ((c.getD k (0,0)).2:Int))
 | [],k,h=>absurd h j39_
 | e :: r,0,_=>by simp [flatE,List.getD]
 | e :: r,k+1,h=>by
  have f:=R1_ r k (by simp at h;omega);have d:(k+1) * 2=k * 2+1+1:=q39_;rw [d];simp only [flatE,List.getElem?_cons_succ,List.getD_cons_succ];exact f
theorem Yv1 (d:List (Nat × Nat)):∀ u∈flatE d,u.oneCell'=true:=by
 induction d with
 | nil=>intro u c;simp [flatE] at c
 | cons e r ih =>
  intro u c;simp only [flatE,List.mem_cons] at c;rcases c with rfl | rfl | c
  ·rfl
  ·rfl
  ·exact ih u c
theorem Yl8 (a:Addr) (j:Nat):(⟨(a.add j).block,(a.add j).off+1,none⟩:Addr)=a.add (j+1):=by
 unfold Addr.add;by_cases c:j=0
 ·subst c;simp
 ·simp [c,Nat.add_assoc]
theorem Edges.cells {w:World} {B:Nat} {A:Option Addr} {n c:Nat} {f:List (Nat × Nat)} (h:Edges w B (.slice A n c) (castE f)) {m:Addr} (hA:A=some m):∀ j u,(flatE f)[j]?=some u→w.cell? (m.add j)=some u:=by
 intro j u d;obtain ⟨x,z,v,_,r⟩:=h;injection v with hA' _ _;have C:j<f.length * 2:=by
  have:=(List.getElem?_eq_some_iff.1 d).1
  rwa [O5_] at this
 have q:j / 2<f.length:=q39_;obtain ⟨y,g,_,o,k⟩:=r (j / 2) (by rw [X4_];exact q);rw [← hA',hA] at g;injection g with g;subst g;rw [G8_] at o k;have p:=R1_ f (j / 2) q;rcases Nat.mod_two_eq_zero_or_one j with s | s
 ·have e:j=j / 2 * 2:=by omega
  rw [e,p.1] at d;injection d with d;rw [e,← d];exact o
 ·have e:j=j / 2 * 2+1:=by omega
  rw [e,p.2] at d;injection d with d;rw [Yl8] at k;rw [e,← d];exact k
theorem Vj6:(Tryz.prog.info? 55).map (fun i=>(i.zero,i.size,i.bytes))=some (some (.agg #[.int .i64 0,.int .i64 0]),2,16):=x39_
def OwnE (w:World) (base:Nat) (v:Value) (ns:List (Nat × Nat)):Prop:=w.ownsRow base 55 2 v ns.length (flatE ns)
theorem OwnE.edges {w:World} {base:Nat} {v:Value} {d:List (Nat × Nat)} (h:OwnE w base v d):Edges w w.heap.size v (castE d):=by
 rcases h.2 with ⟨rfl,j⟩ | ⟨g,f,p,rfl,hb,q,m,o,_⟩
 ·have:d=[]:=List.eq_nil_of_length_eq_zero j
  subst this;exact ⟨none,0,rfl,⟨Nat.le_refl _,x40_,fun _=>rfl⟩,fun k c=>absurd c (by simp [castE])⟩
 ·refine ⟨_,f,by rw [X4_],⟨by rw [X4_];exact m,o,fun e=>by cases e⟩,fun k c=>⟨⟨g,0,none⟩,rfl,(World.ownsRow.lt h g rfl).2,?_,?_⟩⟩
  ·rw [X4_] at c
   rw [G8_];exact World.ownsRow.cells h (g:=g) rfl _ _ (R1_ d k c).1
  ·rw [X4_] at c
   rw [G8_,Yl8];exact World.ownsRow.cells h (g:=g) rfl _ _ (R1_ d k c).2
theorem OwnE.slice {w:World} {base:Nat} {v:Value} {d:List (Nat × Nat)} (h:OwnE w base v d):∃ A c,v=.slice A d.length c:=by
 rcases h.2 with ⟨rfl,e⟩ | ⟨g,c,_,f,_⟩
 ·exact ⟨none,0,by rw [e]⟩
 ·exact ⟨_,c,f⟩
theorem S7_ {w:World} {ops:Array Oper} {rest:List Oper} {o:Oper} {a:Act} {Q:Exit→Act→World→Prop} (f:o.guard=none) (s x:Operand)
  (k:o.op=.call { callee:=.builtin .append,args:=#[s,x],argTypes:=#[54, 54] })
  (base B:Nat) (v z:Value) (zs ys:List (Nat × Nat)) (hs:a.eval s=v) (q:a.eval x=z) (e:OwnE w base v zs) (m:Edges w B z (castE ys))
  (L:zs.length≤4194304) (K:ys.length≤4194304) (hb:base≤w.heap.size)
  (h:∀ d w',OwnE w' base d (zs ++ ys)→w.grownBy w' v.ownBlock→wpList Tryz.prog ops Q rest (a.put o.dst d) w'):wpList Tryz.prog ops Q (o :: rest) a w:=by
 obtain ⟨u,g,H,I,J⟩:=info_parts Vj6;have C:=m;obtain ⟨A,c,p,j,F⟩:=m;rw [X4_] at p j;subst p;cases A with
 | some ad =>
  refine wpList_append_own w f s x _ k base 55 u (.agg #[.int .i64 0,.int .i64 0]) 2 16 x39_ g H I J rfl x40_ v zs.length (flatE zs) hs e ad ys.length c (flatE ys) q (O5_ ys) (C.cells rfl) (Yv1 ys) ?_ ?_ hb ?_
  ·unfold maxLen;omega
  ·omega
  ·intro d w' D E _
   refine h d w' ?_ E;unfold OwnE;rw [O6_,List.length_append];exact D
 | none =>
  have G:ys=[]:=by
   cases ys with
   | nil=>rfl
   | cons y r =>
    obtain ⟨_,hA,_⟩:=F 0 (by simp [castE]);cases hA
  subst G;have hc:=j.2.2 rfl;subst hc;refine wpList_append_own_none f s x _ k base 55 u 2 x39_ g v zs.length (flatE zs) hs e q ?_;exact h v w (by rw [List.append_nil];exact e) ⟨rfl,rfl,rfl,Nat.le_refl _,fun _ _ _=>rfl⟩
theorem M7_ {w w':World} {base:Nat} {e:TypeId} {size:Nat} {v:Value} {n:Nat} {c:List Value} (h:w.ownsRow base e size v n c) (hb:Below w.heap.size w w'):w'.ownsRow base e size v n c :=
 h.kept (Z6_ hb none) (by
  rcases v.ownBlock with _ | q
  ·exact .inl rfl
  ·exact .inr j39_)
def RowO (w:World) (o:Option Nat) (v:Value) (zs:List Int):Prop :=
 ∃ A c,v=.slice A zs.length c∧(zs.length≤c∧c≤maxLen∧(A=none→c=0))∧∀ k,k<zs.length→∃ ad:Addr,A=some ad∧ad.block<w.heap.size∧some ad.block≠o∧w.cell? (ad.add k)=some (.int .i64 (zs.getD k 0))
theorem RowO.row {w:World} {o:Option Nat} {v:Value} {zs:List Int} (h:RowO w o v zs):Row w w.heap.size v zs:=by
 obtain ⟨A,c,q,p,j⟩:=h;refine ⟨A,c,q,p,fun k m=>?_⟩;obtain ⟨d,e,f,_,g⟩:=j k m;exact ⟨d,e,f,g⟩
theorem RowO.of_row {w:World} {B:Nat} {o:Option Nat} {v:Value} {zs:List Int} (h:Row w B v zs) (hB:B≤w.heap.size) (r:∀ g,o=some g→B≤g):RowO w o v zs:=by
 obtain ⟨A,c,s,q,m⟩:=h;refine ⟨A,c,s,q,fun k p=>?_⟩;obtain ⟨d,f,u,j⟩:=m k p;refine ⟨d,f,q39_,fun e=>?_,j⟩;have:=r _ e.symm;omega
theorem RowO.grown {w w':World} {o d:Option Nat} {v:Value} {zs:List Int} (h:RowO w o v zs) (f:w.grownBy w' o) (u:d=o∨d=some w.heap.size):RowO w' d v zs:=by
 obtain ⟨A,c,x,s,q⟩:=h;refine ⟨A,c,x,s,fun k r=>?_⟩;obtain ⟨g,j,m,h3,p⟩:=q k r;refine ⟨g,j,Nat.lt_of_lt_of_le m f.size,?_,f.cell p (by rw [Z2_];exact h3)⟩;rcases u with rfl | rfl
 ·exact h3
 ·intro e
  injection e with e;omega
theorem RowO.below {w w':World} {o:Option Nat} {v:Value} {zs:List Int} (h:RowO w o v zs) (hb:Below w.heap.size w w'):RowO w' o v zs:=by
 obtain ⟨A,c,r,q,j⟩:=h;refine ⟨A,c,r,q,fun k m=>?_⟩;obtain ⟨d,f,e,h3,g⟩:=j k m;exact ⟨d,f,Nat.lt_of_lt_of_le e hb.size,h3,(hb.cell (p:=d.add k) (by rw [Z2_];exact e)).trans g⟩
def ListO (w:World) (o:Option Nat) (v:Value) (qq:List (List Int)):Prop :=
 ∃ A c,v=.slice A qq.length c∧(A=none→c=0)∧∀ k,k<qq.length→∃ (ad:Addr) (u:Value),A=some ad∧w.cell? (ad.add k)=some u∧RowO w o u (qq.getD k [])
theorem ListO.of_rows {w:World} {B:Nat} {o:Option Nat} {v:Value} {d:List (List Int)} (h:Rows2 w B v d) (hB:B≤w.heap.size) (r:∀ g,o=some g→B≤g):ListO w o v d:=by
 obtain ⟨A,c,s,q,m⟩:=h;refine ⟨A,c,s,q.2.2,fun k p=>?_⟩;obtain ⟨e,u,f,_,h3,j⟩:=m k p;exact ⟨e,u,f,h3,.of_row j hB r⟩
theorem ListO.one {W:World} {o:Option Nat} {u:Value} {zs:List Int} (n:Nat) (d:W.heap.size=n) (h:RowO W o u zs):ListO (W.alloc (.cells #[u] 26)) o (.slice (some ⟨n,0,none⟩) 1 1) [zs]:=by
 subst d;refine ⟨_,1,rfl,(fun e=>by cases e),fun k c=>⟨⟨W.heap.size,0,none⟩,u,rfl,?_,?_⟩⟩
 ·match k,c with
  | 0,_=>exact (Blk.new W 26 #[u]).cell 0
 ·match k,c with
  | 0,_=>exact h.below ((Below.refl _ W).alloc (Nat.le_refl _) _)
def OwnR (w:World) (base:Nat) (v:Value) (pp:List (List Int)):Prop :=
 ∃ vs,w.ownsRow base 26 1 v vs.length vs∧vs.length=pp.length∧∀ (i:Nat) (u:Value) (p:List Int),vs[i]?=some u→pp[i]?=some p→RowO w v.ownBlock u p
theorem OwnR.lt {w:World} {base:Nat} {v:Value} {pp:List (List Int)} (h:OwnR w base v pp):∀ g,v.ownBlock=some g→base≤g:=by
 obtain ⟨e,d,_⟩:=h;exact fun g c=>(d.lt g c).1
theorem OwnR.new (W:World) (base n:Nat) (hb:base≤W.heap.size) (c:W.heap.size=n):OwnR (W.alloc (.cells #[] 26)) base (.slice (some ⟨n,0,none⟩) 0 0) []:=by
 subst c;exact ⟨[],World.ownsRow_lit W #[] 0 hb z40_ rfl,rfl,fun i u p h=>by simp at h⟩
theorem OwnR.below {w w':World} {base:Nat} {v:Value} {pp:List (List Int)} (h:OwnR w base v pp) (hb:Below w.heap.size w w'):OwnR w' base v pp:=by
 obtain ⟨g,e,hl,f⟩:=h;exact ⟨g,M7_ e hb,hl,fun i u p c d=>(f i u p c d).below hb⟩
theorem OwnR.upA {w:World} {base:Nat} {v:Value} {pp:List (List Int)} (h:OwnR w base v pp) (o:Obj):OwnR (w.alloc o) base v pp:=h.below ((Below.refl _ w).alloc (Nat.le_refl _) o)
theorem OwnR.rows {w:World} {base:Nat} {v:Value} {pp:List (List Int)} (h:OwnR w base v pp):Rows2 w w.heap.size v pp:=by
 obtain ⟨j,d,hl,q⟩:=h;rcases d.2 with ⟨rfl,s⟩ | ⟨g,m,r,rfl,hb,u,o,p,_⟩
 ·have:pp=[]:=List.eq_nil_of_length_eq_zero q39_
  subst this;exact ⟨none,0,rfl,⟨Nat.le_refl _,x40_,fun _=>rfl⟩,fun k c=>absurd c j39_⟩
 ·refine ⟨some ⟨g,0,none⟩,m,by rw [hl],⟨by rw [← hl];exact o,p,fun e=>by cases e⟩,fun k c=>?_⟩
  have f:k<j.length:=q39_;refine ⟨_,j[k],rfl,(d.lt g rfl).2,d.cells (g:=g) rfl k _ (List.getElem?_eq_getElem f),?_⟩;rw [show pp.getD k []=pp[k] from by simp [List.getD,c]];exact (q k _ _ (List.getElem?_eq_getElem f) (List.getElem?_eq_getElem c)).row
theorem OwnR.app (E:TypeId) {w:World} {base:Nat} {v N:Value} {pp f:List (List Int)} (h:OwnR w base v pp) (U:ListO w v.ownBlock N f) (hb:base≤w.heap.size) (hl:pp.length+f.length≤4194304) :
  ∃ m w',(Builtin.append_ #[22, 22] E #[v,N]).run Tryz.prog w=.ok m w'∧OwnR w' base m (pp ++ f)∧w.grownBy w' v.ownBlock:=by
 obtain ⟨M,H,V,W,X⟩:=info_parts Zw9;obtain ⟨g,B,D,L⟩:=h;obtain ⟨A,c,rfl,S,I⟩:=U;cases A with
 | none =>
  have T:f=[]:=by
   cases f with
   | nil=>rfl
   | cons y r =>
    obtain ⟨_,_,hA,_⟩:=I 0 j39_;cases hA
  subst T;obtain rfl:=S rfl;have x:OwnR w base v (pp ++ []):=by rw [List.append_nil];exact ⟨g,B,D,L⟩
  exact ⟨v,w,run_append_owned_none (P:=Tryz.prog) (w:=w) base 22 E 26 M 1 x39_ H v g.length g B,x,⟨rfl,rfl,rfl,Nat.le_refl _,fun _ _ _=>rfl⟩⟩
 | some ad =>
  obtain ⟨us,K⟩:∃ us:List Value,us=(List.range f.length).map fun k=>(w.cell? (ad.add k)).getD undef:=⟨_,rfl⟩;have C:us.length=f.length:=by rw [K];simp
  have z:∀ k (u:Value),us[k]?=some u→w.cell? (ad.add k)=some u∧RowO w v.ownBlock u (f.getD k []):=by
   intro k u d;have J:k<f.length:=by have:=(List.getElem?_eq_some_iff.1 d).1;omega
   obtain ⟨Z,u',hA,o,s⟩:=I k J;injection hA with hA;subst hA;rw [K] at d;simp [J,o] at d;subst d;exact ⟨o,s⟩
  obtain ⟨m,w',o,s,h3,_,F⟩:=run_append_own_at (P:=Tryz.prog) w base 22 E 26 M (.slice none 0 0) 1 24 x39_ H V W X rfl x40_ v g.length g B ad f.length c us (by rw [C];simp) (fun j u Q=>(z j u Q).1)
   (fun u d=>by
    obtain ⟨k,R,rfl⟩:=List.mem_iff_getElem.1 d;obtain ⟨Y,c',e,_⟩:=(z k _ (List.getElem?_eq_getElem R)).2;rw [e];rfl) z40_ q39_ hb
  have x:OwnR w' base m (pp ++ f):=by
   refine ⟨g ++ us,by rw [List.length_append,C];exact s,by simp [D,C],fun i u p d q=>?_⟩;by_cases O:i<g.length
   ·rw [List.getElem?_append_left O] at d
    rw [List.getElem?_append_left q39_] at q;exact (L i u p d q).grown h3 F
   ·rw [List.getElem?_append_right q39_] at d q
    rw [D] at d;have G:=(z _ u d).2;rw [show f.getD (i - pp.length) []=p by simp [List.getD,q]] at G;exact G.grown h3 F
  exact ⟨m,w',o,x,h3⟩
theorem U9_ {w:World} {ops:Array Oper} {rest:List Oper} {o:Oper} {a:Act} {Q:Exit→Act→World→Prop} (p:Region.wanted o (yielded ops a.tmps)=true) (s x:Operand)
  (j:o.op=.call { callee:=.builtin .append,args:=#[s,x],argTypes:=#[22, 22] })
  (base:Nat) (v e:Value) (pp d:List (List Int)) (hs:a.eval s=v) (q:a.eval x=e) (h:OwnR w base v pp) (k:ListO w v.ownBlock e d) (hb:base≤w.heap.size) (hl:pp.length+d.length≤4194304)
  (g:∀ c w',OwnR w' base c (pp ++ d)→w.grownBy w' v.ownBlock→wpList Tryz.prog ops Q rest (a.put o.dst c) w'):wpList Tryz.prog ops Q (o :: rest) a w:=by
 refine wpList_step fun K hK=>?_;rw [if_pos p];obtain ⟨c,w',m,f,h3⟩:=h.app o.type k hb hl;unfold Oper.wp execOp;simp only [j,resolve,invoke,builtin,Sem.run_bind,Sem.run_pure,Result.andThen_ok,List.map_toArray,List.map_cons,List.map_nil,hs,q,m];exact hK _ _ (g c w' f h3)
end Wp
end Go.Proofs.YteiejkhdonmcdaaGreatDoor
