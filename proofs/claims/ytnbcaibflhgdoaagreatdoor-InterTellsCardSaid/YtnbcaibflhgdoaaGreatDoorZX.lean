/- Edges, and rows of rows, that the call itself makes, by append (VOwn). The document's Mod, Pow and Inv of layer 4, walked (VMR). -/
import Derived.Test.YtnbcaibflhgdoaaGreatDoorIJRef
import Derived.Test.YtnbcaibflhgdoaaGreatDoorZA
import Derived.Laws.AppendOwnNone
import Derived.Maps.AppendAt
import Derived.Test.YtnbcaibflhgdoaaGreatDoorQTA
import Derived.Deep.RegionWith
import Derived.Test.YtnbcaibflhgdoaaGreatDoorX0A
import Derived.Test.YtnbcaibflhgdoaaGreatDoorX0B
set_option maxHeartbeats 2000000
set_option maxRecDepth 100000
open Go.Lib (hid)
namespace Go.Proofs.YtnbcaibflhgdoaaGreatDoor.Wp
private theorem q10_ {P:Prop} (h:P:=by
 rintro e w1 ⟨rfl,hb1⟩
 go_wp2_with fail
 refine (Hm.out _).mono ?_
 rintro e w2 ⟨rfl,rfl⟩
 go_wp2_with fail
 refine (Hw.out _).mono ?_
 rintro e w3 ⟨rfl,hb3⟩
 have hB3:=Z0_ hb1 (Nat.le_refl _) hb3
 go_wp2
 go_ret2
 exact ⟨rfl,hB3⟩):P:=h
private theorem k15_ {P:Prop} (h:P:=by
 rintro e w1 ⟨rfl,hb1⟩
 go_wp2_with fail
 refine (Hm.out _).mono ?_
 rintro e w2 ⟨rfl,rfl⟩
 go_wp2
 go_ret2
 exact ⟨rfl,hb1⟩):P:=h
end Go.Proofs.YtnbcaibflhgdoaaGreatDoor.Wp
namespace Go.Proofs.YtnbcaibflhgdoaaGreatDoor
open Go.RowKit
namespace Wp
def flatE:List (Nat × Nat)→List Value
 | []=>[]
 | e :: r=>.int .i64 (e.1:Int) :: .int .i64 (e.2:Int) :: flatE r
theorem Zv9:∀ (a b:List (Nat × Nat)),flatE (a ++ b)=flatE a ++ flatE b
 | [],b=>rfl
 | e :: a,b=>by simp [flatE,Zv9 a b]
theorem Zy8:∀ (c:List (Nat × Nat)) (k:Nat),k<c.length→(flatE c)[k * 2]?=some (.int .i64 ((c.getD k (0,0)).1:Int))∧(flatE c)[k * 2+1]?=some (.int .i64 ((c.getD k (0,0)).2:Int))
 | [],k,h=>absurd h j41_
 | e :: r,0,_=>by simp [flatE,List.getD]
 | e :: r,k+1,h=>by
  have f:=Zy8 r k (by simp at h;omega);have d:(k+1) * 2=k * 2+1+1:=q41_;rw [d];simp only [flatE,List.getElem?_cons_succ,List.getD_cons_succ];exact f
theorem Vz1 (a:Addr) (j:Nat):(⟨(a.add j).block,(a.add j).off+1,none⟩:Addr)=a.add (j+1):=by
 unfold Addr.add;by_cases c:j=0
 ·subst c;simp
 ·simp [c,Nat.add_assoc]
theorem Vs5:(Tryz.prog.info? 36).map (fun i=>(i.zero,i.size,i.bytes))=some (some (.agg #[.int .i64 0,.int .i64 0]),2,16):=x41_
def OwnE (w:World) (base:Nat) (v:Value) (ns:List (Nat × Nat)):Prop:=w.ownsRow base 36 2 v ns.length (flatE ns)
theorem OwnE.edges {w:World} {base:Nat} {v:Value} {d:List (Nat × Nat)} (h:OwnE w base v d):Edges w w.heap.size v (castE d):=by
 rcases h.2 with ⟨rfl,j⟩ | ⟨g,f,p,rfl,hb,q,m,o,_⟩
 ·have:d=[]:=List.eq_nil_of_length_eq_zero j
  subst this;exact ⟨none,0,rfl,⟨Nat.le_refl _,x42_,fun _=>rfl⟩,fun k c=>absurd c (by simp [castE])⟩
 ·refine ⟨_,f,by rw [V3_],⟨by rw [V3_];exact m,o,fun e=>by cases e⟩,fun k c=>⟨⟨g,0,none⟩,rfl,(World.ownsRow.lt h g rfl).2,?_,?_⟩⟩
  ·rw [V3_] at c
   rw [K7_];exact World.ownsRow.cells h (g:=g) rfl _ _ (Zy8 d k c).1
  ·rw [V3_] at c
   rw [K7_,Vz1];exact World.ownsRow.cells h (g:=g) rfl _ _ (Zy8 d k c).2
theorem OwnE.slice {w:World} {base:Nat} {v:Value} {d:List (Nat × Nat)} (h:OwnE w base v d):∃ A c,v=.slice A d.length c:=by
 rcases h.2 with ⟨rfl,e⟩ | ⟨g,c,_,f,_⟩
 ·exact ⟨none,0,by rw [e]⟩
 ·exact ⟨_,c,f⟩
theorem B1_ {w w':World} {base:Nat} {e:TypeId} {c:Nat} {v:Value} {n:Nat} {d:List Value} (h:w.ownsRow base e c v n d) (hb:Below w.heap.size w w'):w'.ownsRow base e c v n d :=
 h.kept (Z7_ hb none) (by
  rcases v.ownBlock with _ | q
  ·exact .inl rfl
  ·exact .inr j41_)
def RowO (w:World) (o:Option Nat) (v:Value) (zs:List Int):Prop :=
 ∃ A c,v=.slice A zs.length c∧(zs.length≤c∧c≤maxLen∧(A=none→c=0))∧∀ k,k<zs.length→∃ ad:Addr,A=some ad∧ad.block<w.heap.size∧some ad.block≠o∧w.cell? (ad.add k)=some (.int .i64 (zs.getD k 0))
theorem RowO.row {w:World} {o:Option Nat} {v:Value} {zs:List Int} (h:RowO w o v zs):Row w w.heap.size v zs:=by
 obtain ⟨A,c,q,p,j⟩:=h;refine ⟨A,c,q,p,fun k m=>?_⟩;obtain ⟨d,e,f,_,g⟩:=j k m;exact ⟨d,e,f,g⟩
theorem RowO.grown {w w':World} {o d:Option Nat} {v:Value} {zs:List Int} (h:RowO w o v zs) (f:w.grownBy w' o) (u:d=o∨d=some w.heap.size):RowO w' d v zs:=by
 obtain ⟨A,c,x,s,q⟩:=h;refine ⟨A,c,x,s,fun k r=>?_⟩;obtain ⟨g,j,m,h3,p⟩:=q k r;refine ⟨g,j,Nat.lt_of_lt_of_le m f.size,?_,f.cell p (by rw [Z2_];exact h3)⟩;rcases u with rfl | rfl
 ·exact h3
 ·intro e
  injection e with e;omega
theorem RowO.below {w w':World} {o:Option Nat} {v:Value} {zs:List Int} (h:RowO w o v zs) (hb:Below w.heap.size w w'):RowO w' o v zs:=by
 obtain ⟨A,c,r,q,j⟩:=h;refine ⟨A,c,r,q,fun k m=>?_⟩;obtain ⟨d,f,e,h3,g⟩:=j k m;exact ⟨d,f,Nat.lt_of_lt_of_le e hb.size,h3,(hb.cell (p:=d.add k) (by rw [Z2_];exact e)).trans g⟩
def ListO (w:World) (o:Option Nat) (v:Value) (qq:List (List Int)):Prop :=
 ∃ A c,v=.slice A qq.length c∧(A=none→c=0)∧∀ k,k<qq.length→∃ (ad:Addr) (u:Value),A=some ad∧w.cell? (ad.add k)=some u∧RowO w o u (qq.getD k [])
theorem ListO.one {W:World} {o:Option Nat} {u:Value} {zs:List Int} (n:Nat) (d:W.heap.size=n) (h:RowO W o u zs):ListO (W.alloc (.cells #[u] 26)) o (.slice (some ⟨n,0,none⟩) 1 1) [zs]:=by
 subst d;refine ⟨_,1,rfl,(fun e=>by cases e),fun k c=>⟨⟨W.heap.size,0,none⟩,u,rfl,?_,?_⟩⟩
 ·match k,c with
  | 0,_=>exact (Blk.new W 26 #[u]).cell 0
 ·match k,c with
  | 0,_=>exact h.below ((Below.refl _ W).alloc (Nat.le_refl _) _)
def OwnR (w:World) (base:Nat) (v:Value) (pp:List (List Int)):Prop :=
 ∃ vs,w.ownsRow base 26 1 v vs.length vs∧vs.length=pp.length∧∀ (i:Nat) (u:Value) (p:List Int),vs[i]?=some u→pp[i]?=some p→RowO w v.ownBlock u p
theorem OwnR.lt {w:World} {base:Nat} {v:Value} {pp:List (List Int)} (h:OwnR w base v pp):∀ g,v.ownBlock=some g→base≤g:=by
 obtain ⟨e,d,_⟩:=h;exact fun g c=>(d.lt g c).1
theorem OwnR.new (W:World) (base n:Nat) (hb:base≤W.heap.size) (c:W.heap.size=n):OwnR (W.alloc (.cells #[] 26)) base (.slice (some ⟨n,0,none⟩) 0 0) []:=by
 subst c;exact ⟨[],World.ownsRow_lit W #[] 0 hb y42_ rfl,rfl,fun i u p h=>by simp at h⟩
theorem OwnR.below {w w':World} {base:Nat} {v:Value} {pp:List (List Int)} (h:OwnR w base v pp) (hb:Below w.heap.size w w'):OwnR w' base v pp:=by
 obtain ⟨g,e,hl,f⟩:=h;exact ⟨g,B1_ e hb,hl,fun i u p c d=>(f i u p c d).below hb⟩
theorem OwnR.upA {w:World} {base:Nat} {v:Value} {pp:List (List Int)} (h:OwnR w base v pp) (o:Obj):OwnR (w.alloc o) base v pp:=h.below ((Below.refl _ w).alloc (Nat.le_refl _) o)
theorem OwnR.rows {w:World} {base:Nat} {v:Value} {pp:List (List Int)} (h:OwnR w base v pp):Rows2 w w.heap.size v pp:=by
 obtain ⟨j,d,hl,q⟩:=h;rcases d.2 with ⟨rfl,s⟩ | ⟨g,m,r,rfl,hb,u,o,p,_⟩
 ·have:pp=[]:=List.eq_nil_of_length_eq_zero q41_
  subst this;exact ⟨none,0,rfl,⟨Nat.le_refl _,x42_,fun _=>rfl⟩,fun k c=>absurd c j41_⟩
 ·refine ⟨some ⟨g,0,none⟩,m,by rw [hl],⟨by rw [← hl];exact o,p,fun e=>by cases e⟩,fun k c=>?_⟩
  have f:k<j.length:=q41_;refine ⟨_,j[k],rfl,(d.lt g rfl).2,d.cells (g:=g) rfl k _ (List.getElem?_eq_getElem f),?_⟩;rw [show pp.getD k []=pp[k] from by simp [List.getD,c]];exact (q k _ _ (List.getElem?_eq_getElem f) (List.getElem?_eq_getElem c)).row
theorem OwnR.app (D:TypeId) {w:World} {base:Nat} {v M:Value} {pp f:List (List Int)} (h:OwnR w base v pp) (T:ListO w v.ownBlock M f) (hb:base≤w.heap.size) (hl:pp.length+f.length≤4194304) :
  ∃ m w',(Builtin.append_ #[22, 22] D #[v,M]).run Tryz.prog w=.ok m w'∧OwnR w' base m (pp ++ f)∧w.grownBy w' v.ownBlock:=by
 obtain ⟨L,G,U,V,W⟩:=info_parts Yy5;obtain ⟨g,z,C,K⟩:=h;obtain ⟨A,c,rfl,R,H⟩:=T;cases A with
 | none =>
  have S:f=[]:=by
   cases f with
   | nil=>rfl
   | cons y r =>
    obtain ⟨_,_,hA,_⟩:=H 0 j41_;cases hA
  subst S;obtain rfl:=R rfl;have hO:OwnR w base v (pp ++ []):=by rw [List.append_nil];exact ⟨g,z,C,K⟩
  exact ⟨v,w,run_append_owned_none (P:=Tryz.prog) (w:=w) base 22 D 26 L 1 x41_ G v g.length g z,hO,⟨rfl,rfl,rfl,Nat.le_refl _,fun _ _ _=>rfl⟩⟩
 | some ad =>
  obtain ⟨us,J⟩:∃ us:List Value,us=(List.range f.length).map fun k=>(w.cell? (ad.add k)).getD undef:=⟨_,rfl⟩;have B:us.length=f.length:=by rw [J];simp
  have x:∀ k (u:Value),us[k]?=some u→w.cell? (ad.add k)=some u∧RowO w v.ownBlock u (f.getD k []):=by
   intro k u d;have I:k<f.length:=by have:=(List.getElem?_eq_some_iff.1 d).1;omega
   obtain ⟨Y,u',hA,o,s⟩:=H k I;injection hA with hA;subst hA;rw [J] at d;simp [I,o] at d;subst d;exact ⟨o,s⟩
  obtain ⟨m,w',o,s,h3,_,E⟩:=run_append_own_at (P:=Tryz.prog) w base 22 D 26 L (.slice none 0 0) 1 24 x41_ G U V W rfl x42_ v g.length g z ad f.length c us (by rw [B];simp) (fun j u O=>(x j u O).1)
   (fun u d=>by
    obtain ⟨k,Q,rfl⟩:=List.mem_iff_getElem.1 d;obtain ⟨X,Z,e,_⟩:=(x k _ (List.getElem?_eq_getElem Q)).2;rw [e];rfl) y42_ q41_ hb
  have hO:OwnR w' base m (pp ++ f):=by
   refine ⟨g ++ us,by rw [List.length_append,B];exact s,by simp [C,B],fun i u p d q=>?_⟩;by_cases N:i<g.length
   ·rw [List.getElem?_append_left N] at d
    rw [List.getElem?_append_left q41_] at q;exact (K i u p d q).grown h3 E
   ·rw [List.getElem?_append_right q41_] at d q
    rw [C] at d;have F:=(x _ u d).2;rw [show f.getD (i - pp.length) []=p by simp [List.getD,q]] at F;exact F.grown h3 E
  exact ⟨m,w',o,hO,h3⟩
theorem W6_ {w:World} {ops:Array Oper} {rest:List Oper} {o:Oper} {a:Act} {Q:Exit→Act→World→Prop} (p:Region.wanted o (yielded ops a.tmps)=true) (s x:Operand)
  (j:o.op=.call { callee:=.builtin .append,args:=#[s,x],argTypes:=#[22, 22] })
  (base:Nat) (v e:Value) (pp d:List (List Int)) (hs:a.eval s=v) (q:a.eval x=e) (h:OwnR w base v pp) (k:ListO w v.ownBlock e d) (hb:base≤w.heap.size) (hl:pp.length+d.length≤4194304)
  (g:∀ c w',OwnR w' base c (pp ++ d)→w.grownBy w' v.ownBlock→wpList Tryz.prog ops Q rest (a.put o.dst c) w'):wpList Tryz.prog ops Q (o :: rest) a w:=by
 refine wpList_step fun K hK=>?_;rw [if_pos p];obtain ⟨c,w',m,f,h3⟩:=h.app o.type k hb hl;unfold Oper.wp execOp;simp only [j,resolve,invoke,builtin,Sem.run_bind,Sem.run_pure,Result.andThen_ok,List.map_toArray,List.map_cons,List.map_nil,hs,q,m];exact hK _ _ (g c w' f h3)
open Go.RowKit
theorem Yd7 {a p:Int} (c:1≤p) (f:p≤2147483647):(wrap64 (a.tmod p+p)).tmod p=a % p:=by
 have hb:=em_lt (a:=a) c;by_cases d:a.tmod p<0
 ·rw [Vj5 c d,show wrap64 (a % p)=a % p from by unfold wrap64;omega,Yk1 c (by rw [Int.tmod_eq_emod,if_pos (.inl hb.1),Int.emod_emod];omega),Int.emod_emod]
 ·have e:=Yk1 c (Int.not_lt.1 d)
  rw [e,show wrap64 (a % p+p)=a % p+p from by unfold wrap64;omega,Yk1 c (by rw [Int.tmod_eq_emod,if_pos (.inl q41_)];have:=em_lt (a:=a % p+p) c;omega),Int.add_emod_right,Int.emod_emod]
theorem R2_ (a p:Int) (w:World):Calls Tryz.prog 188 #[.int .i64 a,.int .i64 p] w fun e w'=>e=.returned (.int .i64 (modI a p))∧w'=w:=by
 unfold modI;by_cases h:In31 p
 ·rw [if_pos h]
  obtain ⟨c,d⟩:=h;have hs:=Yd7 (a:=a) c d;have j:¬ p<1:=q41_;have k:¬ (2147483647:Int)<p:=q41_;have g:¬ p=0:=q41_;exact y34_
 ·rw [if_neg h]
  by_cases c:p<1
  ·clear h
   exact y34_
  ·have d:2147483647<p:=by unfold In31 at h;omega
   clear h;exact y34_
theorem Yu5 {u s m p:Nat} (h:m % 2=1):(u * s % p) * (s * s % p) ^ (m / 2) % p=u * s ^ m % p:=by
 have e:m=2 * (m / 2)+1:=q41_;rw [Zx6 (H1_ (u * s) p) (N3_ (H1_ (s * s) p))];congr 1
 conv=>rhs;rw [e,Nat.pow_succ,Nat.pow_mul,Nat.pow_two]
 rw [Nat.mul_assoc,Nat.mul_comm s]
theorem Yd8 {u s m p:Nat} (h:m % 2=0):u * (s * s % p) ^ (m / 2) % p=u * s ^ m % p:=by
 have e:m=2 * (m / 2):=q41_;rw [Zx6 rfl (N3_ (H1_ (s * s) p))];congr 1
 conv=>rhs;rw [e,Nat.pow_mul,Nat.pow_two]
theorem Xf4 (a:Int) (n P:Nat) (w:World) (C:1≤P) (L:P≤2147483647) (hn:n≤9223372036854775807) :
  Calls Tryz.prog 192 #[.int .i64 a,.int .i64 n,.int .i64 P] w (Gets w (.int .i64 ((a % P).toNat ^ n % P:Nat))):=by
 obtain ⟨x,E⟩:∃ x:Nat,a % (P:Int)=x:=⟨(a % P).toNat,by have:=em_lt (a:=a) (p:=P) q41_;omega⟩;have V:x<P:=by have:=em_lt (a:=a) (p:=P) q41_;omega
 rw [E,Int.toNat_natCast];have G:=hid (fun w=>R2_ a P w);have H:modI a (P:Int)=x:=by unfold modI;rw [if_pos ⟨q41_,q41_⟩,E]
 rw [H] at G;clear E H;obtain ⟨r,c⟩:∃ r,r=x ^ n % P:=⟨_,rfl⟩;rw [← c];obtain ⟨k,v⟩:∃ k,k=1 % P:=⟨_,rfl⟩;have S:(1:Int).tmod (P:Int)=(k:Int):=by rw [v];exact Zw0 1 P
 have U:k<P:=by rw [v];exact Nat.mod_lt _ C
 have O:=hid (show r=k * x ^ n % P from by
  have e:=Zx6 (n:=P) (H1_ 1 P) (show x ^ n % P=x ^ n % P from rfl);rw [Nat.one_mul] at e;rw [c,v,e])
 clear c v;have Y:¬ (P:Int)<1:=q41_;have Z:¬ (2147483647:Int)<(P:Int):=q41_;have h3:¬ (n:Int)<0:=q41_;have h4:¬ (P:Int)=0:=q41_;have h5:¬ P=0:=q41_
 go_enter Tryz.func192,Tryz.ntmps192
 go_wp2_with fail
 go_region_with (go_at_call 188;refine (G.out _).mono ?_;rintro e w1 ⟨rfl,rfl⟩)
 all_goals (clear S;go_simp)
 all_goals go_wp2
 all_goals
  go_loopw [1,7,8] (fun F X W wr=>∃ m u s:Nat,F=.int .i64 m∧X=.int .i64 u∧W=.int .i64 s∧m≤n∧u<P∧s<P∧r=u * s ^ m % P∧Below w.heap.size w wr) (fun F _ _ _=>(intOf F).toNat)
  case atStart=>exact ⟨n,k,x,rfl,rfl,rfl,Nat.le_refl _,U,V,O.out,(Below.refl _ _).drew⟩
  case round =>
   obtain ⟨m,u,s,rfl,rfl,rfl,K,D,hs,c,I⟩:=hrel;have Hbr:=hid I;clear I;by_cases Q:m=0
   ·subst Q
    have R:u=r:=by rw [c,Nat.pow_zero,Nat.mul_one,Nat.mod_eq_of_lt D]
    subst R;clear c;exact k14_
   ·have x0:0<(m:Int):=by omega
    have j:m / 2<m:=Nat.div_lt_self q41_ x42_;have N:(m:Int).tmod 2=((m % 2:Nat):Int):=Zw0 m 2;have J:(m:Int).tdiv 2=((m / 2:Nat):Int):=rfl;obtain ⟨h,g⟩:∃ h,h=m / 2:=⟨_,rfl⟩;obtain ⟨o,hs'⟩:∃ o,o=s * s % P:=⟨_,rfl⟩;have m2:=Zw1 hs hs L hs'.symm;have M:o<P:=by rw [hs'];exact Nat.mod_lt _ C
    rcases Nat.mod_two_eq_zero_or_one m with z | B;rotate_left
    ·obtain ⟨u',q⟩:∃ u',u'=u * s % P:=⟨_,rfl⟩
     have m1:=Zw1 D hs L q.symm;have T:u'<P:=by rw [q];exact Nat.mod_lt _ C
     have d:=Yu5 (u:=u) (s:=s) (p:=P) B;rw [← q,← hs',← g] at d;have y:=hid (c.trans d.symm);rw [B,show ((1:Nat):Int)=1 from rfl] at N;rw [← g] at J j;clear d c q hs' g B;go_wp2
     go_roundw
     case rel=>exact ⟨h,u',o,rfl,rfl,rfl,Nat.le_trans (Nat.le_of_lt j) K,T,M,y.out,Hbr.out⟩
     case measure=>simpa [intOf] using j
    ·have d:=Yd8 (u:=u) (s:=s) (p:=P) z
     rw [← hs',← g] at d;have y:=hid (c.trans d.symm);rw [z,show ((0:Nat):Int)=0 from rfl] at N;rw [← g] at J j;clear d c hs' g z;go_wp2
     go_roundw
     case rel=>exact ⟨h,u,o,rfl,rfl,rfl,Nat.le_trans (Nat.le_of_lt j) K,D,M,y.out,Hbr.out⟩
     case measure=>simpa [intOf] using j
theorem Xf5 (a n p:Int) (w:World) (h:¬ (In31 p∧0≤n)):Calls Tryz.prog 192 #[.int .i64 a,.int .i64 n,.int .i64 p] w (Gets w (.int .i64 0)):=by
 by_cases c:p<1
 ·exact z12_
 ·by_cases d:2147483647<p
  ·exact z12_
  ·have e:n<0:=by unfold In31 at h;omega
   clear h;exact z12_
theorem Yu6 (a n p:Int) (w:World) (g:n≤9223372036854775807):Calls Tryz.prog 192 #[.int .i64 a,.int .i64 n,.int .i64 p] w (Gets w (.int .i64 (powI a n p))):=by
 unfold powI;by_cases h:In31 p∧0≤n
 ·rw [if_pos h]
  obtain ⟨⟨d,e⟩,c⟩:=h;obtain ⟨P,rfl⟩:∃ P:Nat,p=P:=⟨p.toNat,q41_⟩;obtain ⟨N,rfl⟩:∃ N:Nat,n=N:=⟨n.toNat,q41_⟩;exact Xf4 a N P w q41_ q41_ q41_
 ·rw [if_neg h]
  exact Xf5 a n p w h
open Go.RowKit
theorem Yu7 (a p:Int) (w:World):Calls Tryz.prog 187 #[.int .i64 a,.int .i64 p] w (Gets w (.tuple #[.int .i64 (invI a p),.bool (invB a p)])):=by
 rcases hp:prB p with _ | _
 ·have hB:=Xa6 (a:=a) hp
  rw [Zo5 hB,hB];have c:=hid (fun w=>O3_ p w);rw [hp] at c;clear hB hp
  go_enter Tryz.func187,Tryz.ntmps187
  go_wp2_with fail
  refine (c.out _).mono ?_;rintro e w1 ⟨rfl,hb1⟩;go_wp2
  go_ret2
  exact ⟨rfl,hb1⟩
 ·have c:=hid (fun w=>O3_ p w)
  rw [hp] at c;have g:=prB_iff.1 hp;have j:p≤2147483647:=g.2.1;by_cases d:modI a p=0
  ·have hB:=Zw2 hp d
   rw [Zo5 hB,hB];have Hm:=hid (fun w=>R2_ a p w);rw [d] at Hm;clear hB hp d g
   go_enter Tryz.func187,Tryz.ntmps187
   go_wp2_with fail
   refine (c.out _).mono ?_;exact k15_
  ·have hB:=Zo4 hp d
   rw [Zo6 hB,hB];have Hm:=hid (fun w=>R2_ a p w);have Hw:=hid (fun w=>Yu6 a (p - 2) p w q41_);have h:=g.1;have k:wrap64 (p - 2)=p - 2:=by unfold wrap64;omega
   generalize modI a p=m at *
   generalize powI a (p - 2) p=y at *
   clear hB hp g
   go_enter Tryz.func187,Tryz.ntmps187
   go_wp2_with fail
   refine (c.out _).mono ?_;exact q10_
end Wp
end Go.Proofs.YtnbcaibflhgdoaaGreatDoor
