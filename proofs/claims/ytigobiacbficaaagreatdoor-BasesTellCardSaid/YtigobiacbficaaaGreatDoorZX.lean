/- Edges, and rows of rows, that the call itself makes, by append (VOwn). The document's Mod, Pow and Inv of layer 4, walked (VMR). -/
import Derived.Test.YtigobiacbficaaaGreatDoorIJRef
import Derived.Test.YtigobiacbficaaaGreatDoorZA
import Derived.Laws.AppendOwnNone
import Derived.Maps.AppendAt
import Derived.Test.YtigobiacbficaaaGreatDoorQTA
import Derived.Deep.RegionWith
import Derived.Test.YtigobiacbficaaaGreatDoorX0A
import Derived.Test.YtigobiacbficaaaGreatDoorX0B
set_option maxHeartbeats 2000000
set_option maxRecDepth 100000
open Go.Lib (hid)
namespace Go.Proofs.YtigobiacbficaaaGreatDoor.Wp
private theorem j9_ {P:Prop} (h:P:=by
 rintro e w1 ⟨rfl,hb1⟩
 go_wp2_with fail
 refine (Hm.out _).mono ?_
 rintro e w2 ⟨rfl,rfl⟩
 go_wp2_with fail
 refine (Hw.out _).mono ?_
 rintro e w3 ⟨rfl,hb3⟩
 have hB3:=Z0_ hb1 (Nat.le_refl _) hb3
 go_wp2
 go_ret2
 exact ⟨rfl,hB3⟩):P:=h
private theorem x17_ {P:Prop} (h:P:=by
 rintro e w1 ⟨rfl,hb1⟩
 go_wp2_with fail
 refine (Hm.out _).mono ?_
 rintro e w2 ⟨rfl,rfl⟩
 go_wp2
 go_ret2
 exact ⟨rfl,hb1⟩):P:=h
open Go.RowKit
def flatE:List (Nat × Nat)→List Value
 | []=>[]
 | e :: r=>.int .i64 (e.1:Int) :: .int .i64 (e.2:Int) :: flatE r
theorem Zq5:∀ (a b:List (Nat × Nat)),flatE (a ++ b)=flatE a ++ flatE b
 | [],b=>rfl
 | e :: a,b=>by simp [flatE,Zq5 a b]
theorem Zv0:∀ (c:List (Nat × Nat)) (k:Nat),k<c.length→(flatE c)[k * 2]?=some (.int .i64 ((c.getD k (0,0)).1:Int))∧(flatE c)[k * 2+1]?=some (.int .i64 ((c.getD k (0,0)).2:Int))
 | [],k,h=>absurd h k40_
 | e :: r,0,_=>by simp [flatE,List.getD]
 | e :: r,k+1,h=>by
  have f:=Zv0 r k (by simp at h;omega);have d:(k+1) * 2=k * 2+1+1:=y40_;rw [d];simp only [flatE,List.getElem?_cons_succ,List.getD_cons_succ];exact f
theorem Ve7 (a:Addr) (j:Nat):(⟨(a.add j).block,(a.add j).off+1,none⟩:Addr)=a.add (j+1):=by
 unfold Addr.add;by_cases c:j=0
 ·subst c;simp
 ·simp [c,Nat.add_assoc]
theorem Jq3:(Tryz.prog.info? 108).map (fun i=>(i.zero,i.size,i.bytes))=some (some (.agg #[.int .i64 0,.int .i64 0]),2,16):=z40_
def OwnE (w:World) (base:Nat) (v:Value) (ns:List (Nat × Nat)):Prop:=w.ownsRow base 108 2 v ns.length (flatE ns)
theorem OwnE.edges {w:World} {base:Nat} {v:Value} {d:List (Nat × Nat)} (h:OwnE w base v d):Edges w w.heap.size v (castE d):=by
 rcases h.2 with ⟨rfl,j⟩ | ⟨g,f,p,rfl,hb,q,m,o,_⟩
 ·have:d=[]:=List.eq_nil_of_length_eq_zero j
  subst this;exact ⟨none,0,rfl,⟨Nat.le_refl _,q41_,fun _=>rfl⟩,fun k c=>absurd c (by simp [castE])⟩
 ·refine ⟨_,f,by rw [V2_],⟨by rw [V2_];exact m,o,fun e=>by cases e⟩,fun k c=>⟨⟨g,0,none⟩,rfl,(World.ownsRow.lt h g rfl).2,?_,?_⟩⟩
  ·rw [V2_] at c
   rw [I8_];exact World.ownsRow.cells h (g:=g) rfl _ _ (Zv0 d k c).1
  ·rw [V2_] at c
   rw [I8_,Ve7];exact World.ownsRow.cells h (g:=g) rfl _ _ (Zv0 d k c).2
theorem OwnE.slice {w:World} {base:Nat} {v:Value} {d:List (Nat × Nat)} (h:OwnE w base v d):∃ A c,v=.slice A d.length c:=by
 rcases h.2 with ⟨rfl,e⟩ | ⟨g,c,_,f,_⟩
 ·exact ⟨none,0,by rw [e]⟩
 ·exact ⟨_,c,f⟩
theorem M7_ {w w':World} {base:Nat} {e:TypeId} {size:Nat} {v:Value} {n:Nat} {c:List Value} (h:w.ownsRow base e size v n c) (hb:Below w.heap.size w w'):w'.ownsRow base e size v n c :=
 h.kept (Z7_ hb none) (by
  rcases v.ownBlock with _ | q
  ·exact .inl rfl
  ·exact .inr k40_)
def RowO (w:World) (o:Option Nat) (v:Value) (zs:List Int):Prop :=
 ∃ A c,v=.slice A zs.length c∧(zs.length≤c∧c≤maxLen∧(A=none→c=0))∧∀ k,k<zs.length→∃ ad:Addr,A=some ad∧ad.block<w.heap.size∧some ad.block≠o∧w.cell? (ad.add k)=some (.int .i64 (zs.getD k 0))
theorem RowO.row {w:World} {o:Option Nat} {v:Value} {zs:List Int} (h:RowO w o v zs):Row w w.heap.size v zs:=by
 obtain ⟨A,c,p,m,g⟩:=h;refine ⟨A,c,p,m,fun k j=>?_⟩;obtain ⟨d,e,h2,_,f⟩:=g k j;exact ⟨d,e,h2,f⟩
theorem RowO.grown {w w':World} {o d:Option Nat} {v:Value} {zs:List Int} (h:RowO w o v zs) (f:w.grownBy w' o) (s:d=o∨d=some w.heap.size):RowO w' d v zs:=by
 obtain ⟨A,c,u,r,p⟩:=h;refine ⟨A,c,u,r,fun k q=>?_⟩;obtain ⟨g,j,h2,h3,m⟩:=p k q;refine ⟨g,j,Nat.lt_of_lt_of_le h2 f.size,?_,f.cell m (by rw [Z2_];exact h3)⟩;rcases s with rfl | rfl
 ·exact h3
 ·intro e
  injection e with e;omega
theorem RowO.below {w w':World} {o:Option Nat} {v:Value} {zs:List Int} (h:RowO w o v zs) (hb:Below w.heap.size w w'):RowO w' o v zs:=by
 obtain ⟨A,c,q,m,g⟩:=h;refine ⟨A,c,q,m,fun k j=>?_⟩;obtain ⟨d,e,h2,h3,f⟩:=g k j;exact ⟨d,e,Nat.lt_of_lt_of_le h2 hb.size,h3,(hb.cell (p:=d.add k) (by rw [Z2_];exact h2)).trans f⟩
def ListO (w:World) (o:Option Nat) (v:Value) (qq:List (List Int)):Prop :=
 ∃ A c,v=.slice A qq.length c∧(A=none→c=0)∧∀ k,k<qq.length→∃ (ad:Addr) (u:Value),A=some ad∧w.cell? (ad.add k)=some u∧RowO w o u (qq.getD k [])
theorem ListO.one {W:World} {o:Option Nat} {u:Value} {zs:List Int} (n:Nat) (d:W.heap.size=n) (h:RowO W o u zs):ListO (W.alloc (.cells #[u] 28)) o (.slice (some ⟨n,0,none⟩) 1 1) [zs]:=by
 subst d;refine ⟨_,1,rfl,(fun e=>by cases e),fun k c=>⟨⟨W.heap.size,0,none⟩,u,rfl,?_,?_⟩⟩
 ·match k,c with
  | 0,_=>exact (Blk.new W 28 #[u]).cell 0
 ·match k,c with
  | 0,_=>exact h.below ((Below.refl _ W).alloc (Nat.le_refl _) _)
def OwnR (w:World) (base:Nat) (v:Value) (pp:List (List Int)):Prop :=
 ∃ vs,w.ownsRow base 28 1 v vs.length vs∧vs.length=pp.length∧∀ (i:Nat) (u:Value) (p:List Int),vs[i]?=some u→pp[i]?=some p→RowO w v.ownBlock u p
theorem OwnR.lt {w:World} {base:Nat} {v:Value} {pp:List (List Int)} (h:OwnR w base v pp):∀ g,v.ownBlock=some g→base≤g:=by
 obtain ⟨vs,d,_⟩:=h;exact fun g c=>(d.lt g c).1
theorem OwnR.new (W:World) (base n:Nat) (hb:base≤W.heap.size) (c:W.heap.size=n):OwnR (W.alloc (.cells #[] 28)) base (.slice (some ⟨n,0,none⟩) 0 0) []:=by
 subst c;exact ⟨[],World.ownsRow_lit W #[] 0 hb z41_ rfl,rfl,fun i u p h=>by simp at h⟩
theorem OwnR.below {w w':World} {base:Nat} {v:Value} {pp:List (List Int)} (h:OwnR w base v pp) (hb:Below w.heap.size w w'):OwnR w' base v pp:=by
 obtain ⟨vs,d,hl,e⟩:=h;exact ⟨vs,M7_ d hb,hl,fun i u p c h2=>(e i u p c h2).below hb⟩
theorem OwnR.upA {w:World} {base:Nat} {v:Value} {pp:List (List Int)} (h:OwnR w base v pp) (o:Obj):OwnR (w.alloc o) base v pp:=h.below ((Below.refl _ w).alloc (Nat.le_refl _) o)
theorem OwnR.rows {w:World} {base:Nat} {v:Value} {pp:List (List Int)} (h:OwnR w base v pp):Rows2 w w.heap.size v pp:=by
 obtain ⟨vs,d,hl,p⟩:=h;rcases d.2 with ⟨rfl,r⟩ | ⟨g,j,q,rfl,hb,s,m,o,_⟩
 ·have:pp=[]:=List.eq_nil_of_length_eq_zero y40_
  subst this;exact ⟨none,0,rfl,⟨Nat.le_refl _,q41_,fun _=>rfl⟩,fun k c=>absurd c k40_⟩
 ·refine ⟨some ⟨g,0,none⟩,j,by rw [hl],⟨by rw [← hl];exact m,o,fun e=>by cases e⟩,fun k c=>?_⟩
  have f:k<vs.length:=y40_;refine ⟨_,vs[k],rfl,(d.lt g rfl).2,d.cells (g:=g) rfl k _ (List.getElem?_eq_getElem f),?_⟩;rw [show pp.getD k []=pp[k] from by simp [List.getD,c]];exact (p k _ _ (List.getElem?_eq_getElem f) (List.getElem?_eq_getElem c)).row
theorem OwnR.app (D:TypeId) {w:World} {base:Nat} {v M:Value} {pp f:List (List Int)} (h:OwnR w base v pp) (T:ListO w v.ownBlock M f) (hb:base≤w.heap.size) (hl:pp.length+f.length≤4194304) :
  ∃ m w',(Builtin.append_ #[22, 22] D #[v,M]).run Tryz.prog w=.ok m w'∧OwnR w' base m (pp ++ f)∧w.grownBy w' v.ownBlock:=by
 obtain ⟨L,G,U,V,W⟩:=info_parts Yv0;obtain ⟨vs,z,C,K⟩:=h;obtain ⟨A,c,rfl,R,H⟩:=T;cases A with
 | none =>
  have S:f=[]:=by
   cases f with
   | nil=>rfl
   | cons y r =>
    obtain ⟨_,_,g,_⟩:=H 0 k40_;cases g
  subst S;obtain rfl:=R rfl;have s:OwnR w base v (pp ++ []):=by rw [List.append_nil];exact ⟨vs,z,C,K⟩
  exact ⟨v,w,run_append_owned_none (P:=Tryz.prog) (w:=w) base 22 D 28 L 1 z40_ G v vs.length vs z,s,⟨rfl,rfl,rfl,Nat.le_refl _,fun _ _ _=>rfl⟩⟩
 | some ad =>
  obtain ⟨us,J⟩:∃ us:List Value,us=(List.range f.length).map fun k=>(w.cell? (ad.add k)).getD undef:=⟨_,rfl⟩;have B:us.length=f.length:=by rw [J];simp
  have x:∀ k (u:Value),us[k]?=some u→w.cell? (ad.add k)=some u∧RowO w v.ownBlock u (f.getD k []):=by
   intro k u d;have I:k<f.length:=by have:=(List.getElem?_eq_some_iff.1 d).1;omega
   obtain ⟨Y,u',g,o,h2⟩:=H k I;injection g with g;subst g;rw [J] at d;simp [I,o] at d;subst d;exact ⟨o,h2⟩
  obtain ⟨m,w',o,h2,h3,_,E⟩:=run_append_own_at (P:=Tryz.prog) w base 22 D 28 L (.slice none 0 0) 1 24 z40_ G U V W rfl q41_ v vs.length vs z ad f.length c us (by rw [B];simp) (fun j u O=>(x j u O).1)
   (fun u d=>by
    obtain ⟨k,Q,rfl⟩:=List.mem_iff_getElem.1 d;obtain ⟨X,c',e,_⟩:=(x k _ (List.getElem?_eq_getElem Q)).2;rw [e];rfl) z41_ y40_ hb
  have s:OwnR w' base m (pp ++ f):=by
   refine ⟨vs ++ us,by rw [List.length_append,B];exact h2,by simp [C,B],fun i u p d q=>?_⟩;by_cases N:i<vs.length
   ·rw [List.getElem?_append_left N] at d
    rw [List.getElem?_append_left y40_] at q;exact (K i u p d q).grown h3 E
   ·rw [List.getElem?_append_right y40_] at d q
    rw [C] at d;have F:=(x _ u d).2;rw [show f.getD (i - pp.length) []=p by simp [List.getD,q]] at F;exact F.grown h3 E
  exact ⟨m,w',o,s,h3⟩
theorem C5_ {w:World} {ops:Array Oper} {rest:List Oper} {o:Oper} {a:Act} {Q:Exit→Act→World→Prop} (p:Region.wanted o (yielded ops a.tmps)=true) (s x:Operand)
  (j:o.op=.call { callee:=.builtin .append,args:=#[s,x],argTypes:=#[22, 22] })
  (base:Nat) (v e:Value) (pp d:List (List Int)) (hs:a.eval s=v) (q:a.eval x=e) (h:OwnR w base v pp) (k:ListO w v.ownBlock e d) (hb:base≤w.heap.size) (hl:pp.length+d.length≤4194304)
  (g:∀ c w',OwnR w' base c (pp ++ d)→w.grownBy w' v.ownBlock→wpList Tryz.prog ops Q rest (a.put o.dst c) w'):wpList Tryz.prog ops Q (o :: rest) a w:=by
 refine wpList_step fun K f=>?_;rw [if_pos p];obtain ⟨c,w',m,h2,h3⟩:=h.app o.type k hb hl;unfold Oper.wp execOp;simp only [j,resolve,invoke,builtin,Sem.run_bind,Sem.run_pure,Result.andThen_ok,List.map_toArray,List.map_cons,List.map_nil,hs,q,m];exact f _ _ (g c w' h2 h3)
open Go.RowKit
theorem Ym1 {a p:Int} (c:1≤p) (h2:p≤2147483647):(wrap64 (a.tmod p+p)).tmod p=a % p:=by
 have hb:=em_lt (a:=a) c;by_cases d:a.tmod p<0
 ·rw [Vg4 c d,show wrap64 (a % p)=a % p from by unfold wrap64;omega,Yo5 c (by rw [Int.tmod_eq_emod,if_pos (.inl hb.1),Int.emod_emod];omega),Int.emod_emod]
 ·have e:=Yo5 c (Int.not_lt.1 d)
  rw [e,show wrap64 (a % p+p)=a % p+p from by unfold wrap64;omega,Yo5 c (by rw [Int.tmod_eq_emod,if_pos (.inl y40_)];have:=em_lt (a:=a % p+p) c;omega),Int.add_emod_right,Int.emod_emod]
theorem R2_ (a p:Int) (w:World):Calls Tryz.prog 169 #[.int .i64 a,.int .i64 p] w fun e w'=>e=.returned (.int .i64 (modI a p))∧w'=w:=by
 unfold modI;by_cases h:In31 p
 ·rw [if_pos h]
  obtain ⟨c,h2⟩:=h;have hs:=Ym1 (a:=a) c h2;have g:¬ p<1:=y40_;have j:¬ (2147483647:Int)<p:=y40_;have d:¬ p=0:=y40_;exact q34_
 ·rw [if_neg h]
  by_cases c:p<1
  ·clear h
   exact q34_
  ·have h2:2147483647<p:=by unfold In31 at h;omega
   clear h;exact q34_
theorem Xa6 {u s m p:Nat} (h:m % 2=1):(u * s % p) * (s * s % p) ^ (m / 2) % p=u * s ^ m % p:=by
 have e:m=2 * (m / 2)+1:=y40_;rw [Zv5 (G6_ (u * s) p) (N3_ (G6_ (s * s) p))];congr 1
 conv=>rhs;rw [e,Nat.pow_succ,Nat.pow_mul,Nat.pow_two]
 rw [Nat.mul_assoc,Nat.mul_comm s]
theorem Ym2 {u s m p:Nat} (h:m % 2=0):u * (s * s % p) ^ (m / 2) % p=u * s ^ m % p:=by
 have e:m=2 * (m / 2):=y40_;rw [Zv5 rfl (N3_ (G6_ (s * s) p))];congr 1
 conv=>rhs;rw [e,Nat.pow_mul,Nat.pow_two]
theorem Xr9 (a:Int) (n P:Nat) (w:World) (C:1≤P) (K:P≤2147483647) (hn:n≤9223372036854775807) :
  Calls Tryz.prog 188 #[.int .i64 a,.int .i64 n,.int .i64 P] w (Gets w (.int .i64 ((a % P).toNat ^ n % P:Nat))):=by
 obtain ⟨x,E⟩:∃ x:Nat,a % (P:Int)=x:=⟨(a % P).toNat,by have:=em_lt (a:=a) (p:=P) y40_;omega⟩;have U:x<P:=by have:=em_lt (a:=a) (p:=P) y40_;omega
 rw [E,Int.toNat_natCast];have F:=hid (fun w=>R2_ a P w);have G:modI a (P:Int)=x:=by unfold modI;rw [if_pos ⟨y40_,y40_⟩,E]
 rw [G] at F;clear E G;obtain ⟨r,c⟩:∃ r,r=x ^ n % P:=⟨_,rfl⟩;rw [← c];obtain ⟨k,v⟩:∃ k,k=1 % P:=⟨_,rfl⟩;have R:(1:Int).tmod (P:Int)=(k:Int):=by rw [v];exact Yy3 1 P
 have T:k<P:=by rw [v];exact Nat.mod_lt _ C
 have N:=hid (show r=k * x ^ n % P from by
  have e:=Zv5 (n:=P) (G6_ 1 P) (show x ^ n % P=x ^ n % P from rfl);rw [Nat.one_mul] at e;rw [c,v,e])
 clear c v;have W:¬ (P:Int)<1:=y40_;have h2:¬ (2147483647:Int)<(P:Int):=y40_;have h3:¬ (n:Int)<0:=y40_;have X:¬ (P:Int)=0:=y40_;have Y:¬ P=0:=y40_
 go_enter Tryz.func188,Tryz.ntmps188
 go_wp2_with fail
 go_region_with (go_at_call 169;refine (F.out _).mono ?_;rintro e w1 ⟨rfl,rfl⟩)
 all_goals (clear R;go_simp)
 all_goals go_wp2
 all_goals
  go_loopw [1,7,8] (fun vn V vs wr=>∃ m u s:Nat,vn=.int .i64 m∧V=.int .i64 u∧vs=.int .i64 s∧m≤n∧u<P∧s<P∧r=u * s ^ m % P∧Below w.heap.size w wr) (fun vn _ _ _=>(intOf vn).toNat)
  case atStart=>exact ⟨n,k,x,rfl,rfl,rfl,Nat.le_refl _,T,U,N.out,(Below.refl _ _).drew⟩
  case round =>
   obtain ⟨m,u,s,rfl,rfl,rfl,J,D,hs,c,H⟩:=hrel;have Hbr:=hid H;clear H;by_cases O:m=0
   ·subst O
    have Q:u=r:=by rw [c,Nat.pow_zero,Nat.mul_one,Nat.mod_eq_of_lt D]
    subst Q;clear c;exact y15_
   ·have Z:0<(m:Int):=by omega
    have j:m / 2<m:=Nat.div_lt_self y40_ q41_;have M:(m:Int).tmod 2=((m % 2:Nat):Int):=Yy3 m 2;have I:(m:Int).tdiv 2=((m / 2:Nat):Int):=rfl;obtain ⟨h,g⟩:∃ h,h=m / 2:=⟨_,rfl⟩;obtain ⟨o,hs'⟩:∃ o,o=s * s % P:=⟨_,rfl⟩;have m2:=Yy4 hs hs K hs'.symm;have L:o<P:=by rw [hs'];exact Nat.mod_lt _ C
    rcases Nat.mod_two_eq_zero_or_one m with z | B;rotate_left
    ·obtain ⟨u',q⟩:∃ u',u'=u * s % P:=⟨_,rfl⟩
     have m1:=Yy4 D hs K q.symm;have S:u'<P:=by rw [q];exact Nat.mod_lt _ C
     have d:=Xa6 (u:=u) (s:=s) (p:=P) B;rw [← q,← hs',← g] at d;have y:=hid (c.trans d.symm);rw [B,show ((1:Nat):Int)=1 from rfl] at M;rw [← g] at I j;clear d c q hs' g B;go_wp2
     go_roundw
     case rel=>exact ⟨h,u',o,rfl,rfl,rfl,Nat.le_trans (Nat.le_of_lt j) J,S,L,y.out,Hbr.out⟩
     case measure=>simpa [intOf] using j
    ·have d:=Ym2 (u:=u) (s:=s) (p:=P) z
     rw [← hs',← g] at d;have y:=hid (c.trans d.symm);rw [z,show ((0:Nat):Int)=0 from rfl] at M;rw [← g] at I j;clear d c hs' g z;go_wp2
     go_roundw
     case rel=>exact ⟨h,u,o,rfl,rfl,rfl,Nat.le_trans (Nat.le_of_lt j) J,D,L,y.out,Hbr.out⟩
     case measure=>simpa [intOf] using j
theorem Xs0 (a n p:Int) (w:World) (h:¬ (In31 p∧0≤n)):Calls Tryz.prog 188 #[.int .i64 a,.int .i64 n,.int .i64 p] w (Gets w (.int .i64 0)):=by
 by_cases c:p<1
 ·exact q12_
 ·by_cases h2:2147483647<p
  ·exact q12_
  ·have d:n<0:=by unfold In31 at h;omega
   clear h;exact q12_
theorem Xa7 (a n p:Int) (w:World) (e:n≤9223372036854775807):Calls Tryz.prog 188 #[.int .i64 a,.int .i64 n,.int .i64 p] w (Gets w (.int .i64 (powI a n p))):=by
 unfold powI;by_cases h:In31 p∧0≤n
 ·rw [if_pos h]
  obtain ⟨⟨d,h2⟩,c⟩:=h;obtain ⟨P,rfl⟩:∃ P:Nat,p=P:=⟨p.toNat,y40_⟩;obtain ⟨N,rfl⟩:∃ N:Nat,n=N:=⟨n.toNat,y40_⟩;exact Xr9 a N P w y40_ y40_ y40_
 ·rw [if_neg h]
  exact Xs0 a n p w h
open Go.RowKit
theorem Xa8 (a p:Int) (w:World):Calls Tryz.prog 168 #[.int .i64 a,.int .i64 p] w (Gets w (.tuple #[.int .i64 (invI a p),.bool (invB a p)])):=by
 rcases hp:prB p with _ | _
 ·have c:=Xf4 (a:=a) hp
  rw [Zp6 c,c];have d:=hid (fun w=>O5_ p w);rw [hp] at d;clear c hp
  go_enter Tryz.func168,Tryz.ntmps168
  go_wp2_with fail
  refine (d.out _).mono ?_;rintro e w1 ⟨rfl,hb1⟩;go_wp2
  go_ret2
  exact ⟨rfl,hb1⟩
 ·have d:=hid (fun w=>O5_ p w)
  rw [hp] at d;have h:=prB_iff.1 hp;have j:p≤2147483647:=h.2.1;by_cases g:modI a p=0
  ·have c:=Yy5 hp g
   rw [Zp6 c,c];have Hm:=hid (fun w=>R2_ a p w);rw [g] at Hm;clear c hp g h
   go_enter Tryz.func168,Tryz.ntmps168
   go_wp2_with fail
   refine (d.out _).mono ?_;exact x17_
  ·have c:=Zp5 hp g
   rw [Zp7 c,c];have Hm:=hid (fun w=>R2_ a p w);have Hw:=hid (fun w=>Xa7 a (p - 2) p w y40_);have h2:=h.1;have k:wrap64 (p - 2)=p - 2:=by unfold wrap64;omega
   generalize modI a p=m at *
   generalize powI a (p - 2) p=y at *
   clear c hp h
   go_enter Tryz.func168,Tryz.ntmps168
   go_wp2_with fail
   refine (d.out _).mono ?_;exact j9_
end Go.Proofs.YtigobiacbficaaaGreatDoor.Wp
