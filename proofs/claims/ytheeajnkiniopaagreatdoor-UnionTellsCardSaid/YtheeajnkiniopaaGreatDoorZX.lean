/- Edges, and rows of rows, that the call itself makes, by append (VOwn). The document's Mod, Pow and Inv of layer 4, walked (VMR). -/
import Derived.Test.YtheeajnkiniopaaGreatDoorIJRef
import Derived.Test.YtheeajnkiniopaaGreatDoorZA
import Derived.Laws.AppendOwnNone
import Derived.Maps.AppendAt
import Derived.Test.YtheeajnkiniopaaGreatDoorQTA
import Derived.Deep.RegionWith
import Derived.Test.YtheeajnkiniopaaGreatDoorX0A
import Derived.Test.YtheeajnkiniopaaGreatDoorX0B
set_option maxHeartbeats 2000000
set_option maxRecDepth 100000
open Go.Lib (hid)
namespace Go.Proofs.YtheeajnkiniopaaGreatDoor.Wp
private theorem j9_ {P:Prop} (h:P:=by
 rintro e w1 ⟨rfl,hb1⟩
 go_wp2_with fail
 refine (Hm.out _).mono ?_
 rintro e w2 ⟨rfl,rfl⟩
 go_wp2_with fail
 refine (Hw.out _).mono ?_
 rintro e w3 ⟨rfl,hb3⟩
 have hB3:=Z0_ hb1 (Nat.le_refl _) hb3
 go_wp2
 go_ret2
 exact ⟨rfl,hB3⟩):P:=h
private theorem k16_ {P:Prop} (h:P:=by
 rintro e w1 ⟨rfl,hb1⟩
 go_wp2_with fail
 refine (Hm.out _).mono ?_
 rintro e w2 ⟨rfl,rfl⟩
 go_wp2
 go_ret2
 exact ⟨rfl,hb1⟩):P:=h
open Go.RowKit
def flatE:List (Nat × Nat)→List Value
 | []=>[]
 | e :: r=>.int .i64 (e.1:Int) :: .int .i64 (e.2:Int) :: flatE r
theorem Zv8:∀ (a b:List (Nat × Nat)),flatE (a ++ b)=flatE a ++ flatE b
 | [],b=>rfl
 | e :: a,b=>by simp [flatE,Zv8 a b]
theorem Zy9:∀ (c:List (Nat × Nat)) (k:Nat),k<c.length→(flatE c)[k * 2]?=some (.int .i64 ((c.getD k (0,0)).1:Int))∧(flatE c)[k * 2+1]?=some (.int .i64 ((c.getD k (0,0)).2:Int))
 | [],k,h=>absurd h z40_
 | e :: r,0,_=>by simp [flatE,List.getD]
 | e :: r,k+1,h=>by
  have f:=Zy9 r k (by simp at h;omega);have d:(k+1) * 2=k * 2+1+1:=q40_;rw [d];simp only [flatE,List.getElem?_cons_succ,List.getD_cons_succ];exact f
theorem Vq3 (a:Addr) (j:Nat):(⟨(a.add j).block,(a.add j).off+1,none⟩:Addr)=a.add (j+1):=by
 unfold Addr.add;by_cases c:j=0
 ·subst c;simp
 ·simp [c,Nat.add_assoc]
theorem Jz9:(Tryz.prog.info? 116).map (fun i=>(i.zero,i.size,i.bytes))=some (some (.agg #[.int .i64 0,.int .i64 0]),2,16):=x40_
def OwnE (w:World) (base:Nat) (v:Value) (ns:List (Nat × Nat)):Prop:=w.ownsRow base 116 2 v ns.length (flatE ns)
theorem OwnE.edges {w:World} {base:Nat} {v:Value} {d:List (Nat × Nat)} (h:OwnE w base v d):Edges w w.heap.size v (castE d):=by
 rcases h.2 with ⟨rfl,j⟩ | ⟨g,f,p,rfl,hb,q,m,o,_⟩
 ·have:d=[]:=List.eq_nil_of_length_eq_zero j
  subst this;exact ⟨none,0,rfl,⟨Nat.le_refl _,q41_,fun _=>rfl⟩,fun k c=>absurd c (by simp [castE])⟩
 ·refine ⟨_,f,by rw [V2_],⟨by rw [V2_];exact m,o,fun e=>by cases e⟩,fun k c=>⟨⟨g,0,none⟩,rfl,(World.ownsRow.lt h g rfl).2,?_,?_⟩⟩
  ·rw [V2_] at c
   rw [I2_];exact World.ownsRow.cells h (g:=g) rfl _ _ (Zy9 d k c).1
  ·rw [V2_] at c
   rw [I2_,Vq3];exact World.ownsRow.cells h (g:=g) rfl _ _ (Zy9 d k c).2
theorem OwnE.slice {w:World} {base:Nat} {v:Value} {d:List (Nat × Nat)} (h:OwnE w base v d):∃ A c,v=.slice A d.length c:=by
 rcases h.2 with ⟨rfl,e⟩ | ⟨g,c,_,f,_⟩
 ·exact ⟨none,0,by rw [e]⟩
 ·exact ⟨_,c,f⟩
theorem M8_ {w w':World} {base:Nat} {e:TypeId} {size:Nat} {v:Value} {n:Nat} {c:List Value} (h:w.ownsRow base e size v n c) (hb:Below w.heap.size w w'):w'.ownsRow base e size v n c :=
 h.kept (Z7_ hb none) (by
  rcases v.ownBlock with _ | q
  ·exact .inl rfl
  ·exact .inr z40_)
def RowO (w:World) (o:Option Nat) (v:Value) (zs:List Int):Prop :=
 ∃ A c,v=.slice A zs.length c∧(zs.length≤c∧c≤maxLen∧(A=none→c=0))∧∀ k,k<zs.length→∃ ad:Addr,A=some ad∧ad.block<w.heap.size∧some ad.block≠o∧w.cell? (ad.add k)=some (.int .i64 (zs.getD k 0))
theorem RowO.row {w:World} {o:Option Nat} {v:Value} {zs:List Int} (h:RowO w o v zs):Row w w.heap.size v zs:=by
 obtain ⟨A,c,q,p,j⟩:=h;refine ⟨A,c,q,p,fun k m=>?_⟩;obtain ⟨d,e,f,_,g⟩:=j k m;exact ⟨d,e,f,g⟩
theorem RowO.grown {w w':World} {o d:Option Nat} {v:Value} {zs:List Int} (h:RowO w o v zs) (f:w.grownBy w' o) (u:d=o∨d=some w.heap.size):RowO w' d v zs:=by
 obtain ⟨A,c,x,s,q⟩:=h;refine ⟨A,c,x,s,fun k r=>?_⟩;obtain ⟨g,j,m,h3,p⟩:=q k r;refine ⟨g,j,Nat.lt_of_lt_of_le m f.size,?_,f.cell p (by rw [Z2_];exact h3)⟩;rcases u with rfl | rfl
 ·exact h3
 ·intro e
  injection e with e;omega
theorem RowO.below {w w':World} {o:Option Nat} {v:Value} {zs:List Int} (h:RowO w o v zs) (hb:Below w.heap.size w w'):RowO w' o v zs:=by
 obtain ⟨A,c,r,q,j⟩:=h;refine ⟨A,c,r,q,fun k m=>?_⟩;obtain ⟨d,f,e,h3,g⟩:=j k m;exact ⟨d,f,Nat.lt_of_lt_of_le e hb.size,h3,(hb.cell (p:=d.add k) (by rw [Z2_];exact e)).trans g⟩
def ListO (w:World) (o:Option Nat) (v:Value) (qq:List (List Int)):Prop :=
 ∃ A c,v=.slice A qq.length c∧(A=none→c=0)∧∀ k,k<qq.length→∃ (ad:Addr) (u:Value),A=some ad∧w.cell? (ad.add k)=some u∧RowO w o u (qq.getD k [])
theorem ListO.one {W:World} {o:Option Nat} {u:Value} {zs:List Int} (n:Nat) (d:W.heap.size=n) (h:RowO W o u zs):ListO (W.alloc (.cells #[u] 23)) o (.slice (some ⟨n,0,none⟩) 1 1) [zs]:=by
 subst d;refine ⟨_,1,rfl,(fun e=>by cases e),fun k c=>⟨⟨W.heap.size,0,none⟩,u,rfl,?_,?_⟩⟩
 ·match k,c with
  | 0,_=>exact (Blk.new W 23 #[u]).cell 0
 ·match k,c with
  | 0,_=>exact h.below ((Below.refl _ W).alloc (Nat.le_refl _) _)
def OwnR (w:World) (base:Nat) (v:Value) (pp:List (List Int)):Prop :=
 ∃ vs,w.ownsRow base 23 1 v vs.length vs∧vs.length=pp.length∧∀ (i:Nat) (u:Value) (p:List Int),vs[i]?=some u→pp[i]?=some p→RowO w v.ownBlock u p
theorem OwnR.lt {w:World} {base:Nat} {v:Value} {pp:List (List Int)} (h:OwnR w base v pp):∀ g,v.ownBlock=some g→base≤g:=by
 obtain ⟨vs,d,_⟩:=h;exact fun g c=>(d.lt g c).1
theorem OwnR.new (W:World) (base n:Nat) (hb:base≤W.heap.size) (c:W.heap.size=n):OwnR (W.alloc (.cells #[] 23)) base (.slice (some ⟨n,0,none⟩) 0 0) []:=by
 subst c;exact ⟨[],World.ownsRow_lit W #[] 0 hb y41_ rfl,rfl,fun i u p h=>by simp at h⟩
theorem OwnR.below {w w':World} {base:Nat} {v:Value} {pp:List (List Int)} (h:OwnR w base v pp) (hb:Below w.heap.size w w'):OwnR w' base v pp:=by
 obtain ⟨vs,e,hl,f⟩:=h;exact ⟨vs,M8_ e hb,hl,fun i u p c d=>(f i u p c d).below hb⟩
theorem OwnR.upA {w:World} {base:Nat} {v:Value} {pp:List (List Int)} (h:OwnR w base v pp) (o:Obj):OwnR (w.alloc o) base v pp:=h.below ((Below.refl _ w).alloc (Nat.le_refl _) o)
theorem OwnR.rows {w:World} {base:Nat} {v:Value} {pp:List (List Int)} (h:OwnR w base v pp):Rows2 w w.heap.size v pp:=by
 obtain ⟨vs,d,hl,p⟩:=h;rcases d.2 with ⟨rfl,r⟩ | ⟨g,j,q,rfl,hb,s,m,o,_⟩
 ·have:pp=[]:=List.eq_nil_of_length_eq_zero q40_
  subst this;exact ⟨none,0,rfl,⟨Nat.le_refl _,q41_,fun _=>rfl⟩,fun k c=>absurd c z40_⟩
 ·refine ⟨some ⟨g,0,none⟩,j,by rw [hl],⟨by rw [← hl];exact m,o,fun e=>by cases e⟩,fun k c=>?_⟩
  have f:k<vs.length:=q40_;refine ⟨_,vs[k],rfl,(d.lt g rfl).2,d.cells (g:=g) rfl k _ (List.getElem?_eq_getElem f),?_⟩;rw [show pp.getD k []=pp[k] from by simp [List.getD,c]];exact (p k _ _ (List.getElem?_eq_getElem f) (List.getElem?_eq_getElem c)).row
theorem OwnR.app (E:TypeId) {w:World} {base:Nat} {v N:Value} {pp f:List (List Int)} (h:OwnR w base v pp) (U:ListO w v.ownBlock N f) (hb:base≤w.heap.size) (hl:pp.length+f.length≤4194304) :
  ∃ m w',(Builtin.append_ #[35, 35] E #[v,N]).run Tryz.prog w=.ok m w'∧OwnR w' base m (pp ++ f)∧w.grownBy w' v.ownBlock:=by
 obtain ⟨M,H,V,W,X⟩:=info_parts Zw3;obtain ⟨vs,B,D,L⟩:=h;obtain ⟨A,c,rfl,S,I⟩:=U;cases A with
 | none =>
  have T:f=[]:=by
   cases f with
   | nil=>rfl
   | cons y r =>
    obtain ⟨_,_,g,_⟩:=I 0 z40_;cases g
  subst T;obtain rfl:=S rfl;have x:OwnR w base v (pp ++ []):=by rw [List.append_nil];exact ⟨vs,B,D,L⟩
  exact ⟨v,w,run_append_owned_none (P:=Tryz.prog) (w:=w) base 35 E 23 M 1 x40_ H v vs.length vs B,x,⟨rfl,rfl,rfl,Nat.le_refl _,fun _ _ _=>rfl⟩⟩
 | some ad =>
  obtain ⟨us,K⟩:∃ us:List Value,us=(List.range f.length).map fun k=>(w.cell? (ad.add k)).getD undef:=⟨_,rfl⟩;have C:us.length=f.length:=by rw [K];simp
  have z:∀ k (u:Value),us[k]?=some u→w.cell? (ad.add k)=some u∧RowO w v.ownBlock u (f.getD k []):=by
   intro k u d;have J:k<f.length:=by have:=(List.getElem?_eq_some_iff.1 d).1;omega
   obtain ⟨Z,u',g,o,s⟩:=I k J;injection g with g;subst g;rw [K] at d;simp [J,o] at d;subst d;exact ⟨o,s⟩
  obtain ⟨m,w',o,s,h3,_,F⟩:=run_append_own_at (P:=Tryz.prog) w base 35 E 23 M (.slice none 0 0) 1 24 x40_ H V W X rfl q41_ v vs.length vs B ad f.length c us (by rw [C];simp) (fun j u Q=>(z j u Q).1)
   (fun u d=>by
    obtain ⟨k,R,rfl⟩:=List.mem_iff_getElem.1 d;obtain ⟨Y,c',e,_⟩:=(z k _ (List.getElem?_eq_getElem R)).2;rw [e];rfl) y41_ q40_ hb
  have x:OwnR w' base m (pp ++ f):=by
   refine ⟨vs ++ us,by rw [List.length_append,C];exact s,by simp [D,C],fun i u p d q=>?_⟩;by_cases O:i<vs.length
   ·rw [List.getElem?_append_left O] at d
    rw [List.getElem?_append_left q40_] at q;exact (L i u p d q).grown h3 F
   ·rw [List.getElem?_append_right q40_] at d q
    rw [D] at d;have G:=(z _ u d).2;rw [show f.getD (i - pp.length) []=p by simp [List.getD,q]] at G;exact G.grown h3 F
  exact ⟨m,w',o,x,h3⟩
theorem H6_ {w:World} {ops:Array Oper} {rest:List Oper} {o:Oper} {a:Act} {Q:Exit→Act→World→Prop} (q:Region.wanted o (yielded ops a.tmps)=true) (s x:Operand)
  (k:o.op=.call { callee:=.builtin .append,args:=#[s,x],argTypes:=#[35, 35] })
  (base:Nat) (v e:Value) (pp d:List (List Int)) (hs:a.eval s=v) (r:a.eval x=e) (h:OwnR w base v pp) (m:ListO w v.ownBlock e d) (hb:base≤w.heap.size) (hl:pp.length+d.length≤4194304)
  (j:∀ c w',OwnR w' base c (pp ++ d)→w.grownBy w' v.ownBlock→wpList Tryz.prog ops Q rest (a.put o.dst c) w'):wpList Tryz.prog ops Q (o :: rest) a w:=by
 refine wpList_step fun K g=>?_;rw [if_pos q];obtain ⟨c,w',p,f,h3⟩:=h.app o.type m hb hl;unfold Oper.wp execOp;simp only [k,resolve,invoke,builtin,Sem.run_bind,Sem.run_pure,Result.andThen_ok,List.map_toArray,List.map_cons,List.map_nil,hs,r,p];exact g _ _ (j c w' f h3)
open Go.RowKit
theorem Yg9 {a p:Int} (c:1≤p) (f:p≤2147483647):(wrap64 (a.tmod p+p)).tmod p=a % p:=by
 have hb:=em_lt (a:=a) c;by_cases d:a.tmod p<0
 ·rw [Va6 c d,show wrap64 (a % p)=a % p from by unfold wrap64;omega,Yk2 c (by rw [Int.tmod_eq_emod,if_pos (.inl hb.1),Int.emod_emod];omega),Int.emod_emod]
 ·have e:=Yk2 c (Int.not_lt.1 d)
  rw [e,show wrap64 (a % p+p)=a % p+p from by unfold wrap64;omega,Yk2 c (by rw [Int.tmod_eq_emod,if_pos (.inl q40_)];have:=em_lt (a:=a % p+p) c;omega),Int.add_emod_right,Int.emod_emod]
theorem P9_ (a p:Int) (w:World):Calls Tryz.prog 198 #[.int .i64 a,.int .i64 p] w fun e w'=>e=.returned (.int .i64 (modI a p))∧w'=w:=by
 unfold modI;by_cases h:In31 p
 ·rw [if_pos h]
  obtain ⟨c,d⟩:=h;have hs:=Yg9 (a:=a) c d;have j:¬ p<1:=q40_;have k:¬ (2147483647:Int)<p:=q40_;have g:¬ p=0:=q40_;exact k33_
 ·rw [if_neg h]
  by_cases c:p<1
  ·clear h
   exact k33_
  ·have d:2147483647<p:=by unfold In31 at h;omega
   clear h;exact k33_
theorem Xx2 {u s m p:Nat} (h:m % 2=1):(u * s % p) * (s * s % p) ^ (m / 2) % p=u * s ^ m % p:=by
 have e:m=2 * (m / 2)+1:=q40_;rw [Zx1 (G1_ (u * s) p) (N0_ (G1_ (s * s) p))];congr 1
 conv=>rhs;rw [e,Nat.pow_succ,Nat.pow_mul,Nat.pow_two]
 rw [Nat.mul_assoc,Nat.mul_comm s]
theorem Yh0 {u s m p:Nat} (h:m % 2=0):u * (s * s % p) ^ (m / 2) % p=u * s ^ m % p:=by
 have e:m=2 * (m / 2):=q40_;rw [Zx1 rfl (N0_ (G1_ (s * s) p))];congr 1
 conv=>rhs;rw [e,Nat.pow_mul,Nat.pow_two]
theorem Xm7 (a:Int) (n P:Nat) (w:World) (C:1≤P) (K:P≤2147483647) (hn:n≤9223372036854775807) :
  Calls Tryz.prog 207 #[.int .i64 a,.int .i64 n,.int .i64 P] w (Gets w (.int .i64 ((a % P).toNat ^ n % P:Nat))):=by
 obtain ⟨x,E⟩:∃ x:Nat,a % (P:Int)=x:=⟨(a % P).toNat,by have:=em_lt (a:=a) (p:=P) q40_;omega⟩;have U:x<P:=by have:=em_lt (a:=a) (p:=P) q40_;omega
 rw [E,Int.toNat_natCast];have F:=hid (fun w=>P9_ a P w);have G:modI a (P:Int)=x:=by unfold modI;rw [if_pos ⟨q40_,q40_⟩,E]
 rw [G] at F;clear E G;obtain ⟨r,c⟩:∃ r,r=x ^ n % P:=⟨_,rfl⟩;rw [← c];obtain ⟨k,v⟩:∃ k,k=1 % P:=⟨_,rfl⟩;have R:(1:Int).tmod (P:Int)=(k:Int):=by rw [v];exact Zt7 1 P
 have T:k<P:=by rw [v];exact Nat.mod_lt _ C
 have N:=hid (show r=k * x ^ n % P from by
  have e:=Zx1 (n:=P) (G1_ 1 P) (show x ^ n % P=x ^ n % P from rfl);rw [Nat.one_mul] at e;rw [c,v,e])
 clear c v;have W:¬ (P:Int)<1:=q40_;have X:¬ (2147483647:Int)<(P:Int):=q40_;have h3:¬ (n:Int)<0:=q40_;have Y:¬ (P:Int)=0:=q40_;have Z:¬ P=0:=q40_
 go_enter Tryz.func207,Tryz.ntmps207
 go_wp2_with fail
 go_region_with (go_at_call 198;refine (F.out _).mono ?_;rintro e w1 ⟨rfl,rfl⟩)
 all_goals (clear R;go_simp)
 all_goals go_wp2
 all_goals
  go_loopw [1,7,8] (fun vn V vs wr=>∃ m u s:Nat,vn=.int .i64 m∧V=.int .i64 u∧vs=.int .i64 s∧m≤n∧u<P∧s<P∧r=u * s ^ m % P∧Below w.heap.size w wr) (fun vn _ _ _=>(intOf vn).toNat)
  case atStart=>exact ⟨n,k,x,rfl,rfl,rfl,Nat.le_refl _,T,U,N.out,(Below.refl _ _).drew⟩
  case round =>
   obtain ⟨m,u,s,rfl,rfl,rfl,J,D,hs,c,H⟩:=hrel;have Hbr:=hid H;clear H;by_cases O:m=0
   ·subst O
    have Q:u=r:=by rw [c,Nat.pow_zero,Nat.mul_one,Nat.mod_eq_of_lt D]
    subst Q;clear c;exact q15_
   ·have x0:0<(m:Int):=by omega
    have j:m / 2<m:=Nat.div_lt_self q40_ q41_;have M:(m:Int).tmod 2=((m % 2:Nat):Int):=Zt7 m 2;have I:(m:Int).tdiv 2=((m / 2:Nat):Int):=rfl;obtain ⟨h,g⟩:∃ h,h=m / 2:=⟨_,rfl⟩;obtain ⟨o,hs'⟩:∃ o,o=s * s % P:=⟨_,rfl⟩;have m2:=Zt8 hs hs K hs'.symm;have L:o<P:=by rw [hs'];exact Nat.mod_lt _ C
    rcases Nat.mod_two_eq_zero_or_one m with z | B;rotate_left
    ·obtain ⟨u',q⟩:∃ u',u'=u * s % P:=⟨_,rfl⟩
     have m1:=Zt8 D hs K q.symm;have S:u'<P:=by rw [q];exact Nat.mod_lt _ C
     have d:=Xx2 (u:=u) (s:=s) (p:=P) B;rw [← q,← hs',← g] at d;have y:=hid (c.trans d.symm);rw [B,show ((1:Nat):Int)=1 from rfl] at M;rw [← g] at I j;clear d c q hs' g B;go_wp2
     go_roundw
     case rel=>exact ⟨h,u',o,rfl,rfl,rfl,Nat.le_trans (Nat.le_of_lt j) J,S,L,y.out,Hbr.out⟩
     case measure=>simpa [intOf] using j
    ·have d:=Yh0 (u:=u) (s:=s) (p:=P) z
     rw [← hs',← g] at d;have y:=hid (c.trans d.symm);rw [z,show ((0:Nat):Int)=0 from rfl] at M;rw [← g] at I j;clear d c hs' g z;go_wp2
     go_roundw
     case rel=>exact ⟨h,u,o,rfl,rfl,rfl,Nat.le_trans (Nat.le_of_lt j) J,D,L,y.out,Hbr.out⟩
     case measure=>simpa [intOf] using j
theorem Xm8 (a n p:Int) (w:World) (h:¬ (In31 p∧0≤n)):Calls Tryz.prog 207 #[.int .i64 a,.int .i64 n,.int .i64 p] w (Gets w (.int .i64 0)):=by
 by_cases c:p<1
 ·exact k11_
 ·by_cases d:2147483647<p
  ·exact k11_
  ·have e:n<0:=by unfold In31 at h;omega
   clear h;exact k11_
theorem Xx3 (a n p:Int) (w:World) (g:n≤9223372036854775807):Calls Tryz.prog 207 #[.int .i64 a,.int .i64 n,.int .i64 p] w (Gets w (.int .i64 (powI a n p))):=by
 unfold powI;by_cases h:In31 p∧0≤n
 ·rw [if_pos h]
  obtain ⟨⟨d,e⟩,c⟩:=h;obtain ⟨P,rfl⟩:∃ P:Nat,p=P:=⟨p.toNat,q40_⟩;obtain ⟨N,rfl⟩:∃ N:Nat,n=N:=⟨n.toNat,q40_⟩;exact Xm7 a N P w q40_ q40_ q40_
 ·rw [if_neg h]
  exact Xm8 a n p w h
open Go.RowKit
theorem Xx4 (a p:Int) (w:World):Calls Tryz.prog 197 #[.int .i64 a,.int .i64 p] w (Gets w (.tuple #[.int .i64 (invI a p),.bool (invB a p)])):=by
 rcases hp:prB p with _ | _
 ·have c:=Xa3 (a:=a) hp
  rw [Zn1 c,c];have d:=hid (fun w=>O3_ p w);rw [hp] at d;clear c hp
  go_enter Tryz.func197,Tryz.ntmps197
  go_wp2_with fail
  refine (d.out _).mono ?_;rintro e w1 ⟨rfl,hb1⟩;go_wp2
  go_ret2
  exact ⟨rfl,hb1⟩
 ·have d:=hid (fun w=>O3_ p w)
  rw [hp] at d;have h:=prB_iff.1 hp;have k:p≤2147483647:=h.2.1;by_cases g:modI a p=0
  ·have c:=Zt9 hp g
   rw [Zn1 c,c];have Hm:=hid (fun w=>P9_ a p w);rw [g] at Hm;clear c hp g h
   go_enter Tryz.func197,Tryz.ntmps197
   go_wp2_with fail
   refine (d.out _).mono ?_;exact k16_
  ·have c:=Zn0 hp g
   rw [Zn2 c,c];have Hm:=hid (fun w=>P9_ a p w);have Hw:=hid (fun w=>Xx3 a (p - 2) p w q40_);have j:=h.1;have o:wrap64 (p - 2)=p - 2:=by unfold wrap64;omega
   generalize modI a p=m at *
   generalize powI a (p - 2) p=y at *
   clear c hp h
   go_enter Tryz.func197,Tryz.ntmps197
   go_wp2_with fail
   refine (d.out _).mono ?_;exact j9_
end Go.Proofs.YtheeajnkiniopaaGreatDoor.Wp
