/- The program's takeOff, walked. The program's rank of columns, walked. -/
import Derived.Test.YtnbcaibflhgdoaaGreatDoorZP
import Derived.Maps.RangeWalk
import Derived.Maps.OwnSet
import Derived.WalkKit
import Derived.Test.YtnbcaibflhgdoaaGreatDoorZA
import Derived.Deep.OwnRows
import Derived.Test.YtnbcaibflhgdoaaGreatDoorZU
import Derived.Maps.OwnOps
import Derived.StillTailTactics
import Derived.IntWalk
import Derived.Lib.SliceRun
import Derived.Test.YtnbcaibflhgdoaaGreatDoorZE
import Derived.Shelf.Abstract
import Derived.Laws.EntriesVeiled
import Derived.Maps.AppendAt
import Derived.Test.YtnbcaibflhgdoaaGreatDoorX0A
import Derived.Test.YtnbcaibflhgdoaaGreatDoorX0B
set_option maxHeartbeats 8000000
set_option maxRecDepth 100000
open Go.Lib (hid)
open Nat (le_refl)
namespace Go.Proofs.YtnbcaibflhgdoaaGreatDoor.Wp
private theorem k21_ {P:Prop} (h:P:=by
 go_enter Tryz.func115,Tryz.ntmps115
 go_wp2_with fail
 refine (prime_is p true HP.out _ (HM.out.up Hb0.out)).mono ?_
 rintro e w1 ⟨rfl,hb1⟩
 have c0:w1.cell? ⟨w.heap.size,0,none⟩=some (.int .i64 p):=(hb1.cell (p:=⟨w.heap.size,0,none⟩) (by simp;omega)).trans (by simp [go_sem])
 have c1:w1.cell? ⟨w.heap.size+1,0,none⟩=some (.int .i64 rows):=(hb1.cell (p:=⟨w.heap.size+1,0,none⟩) (by simp)).trans (by simp [go_sem])
 have Hb1:=hid (Z0_ Hb0.out (le_refl _) hb1)
 have Hs1:Hid (w.heap.size+1<w1.heap.size):=j5_
 clear hb1
 exact z1_):P:=h
private theorem q29_ {P:Prop} (h:P:=by
 rw [decide_eq_false (show ¬ (0≤rows∧rows≤64) by omega)]
 simp only [Bool.false_and]
 exact k21_):P:=h
end Go.Proofs.YtnbcaibflhgdoaaGreatDoor.Wp
namespace Go.Proofs.YtnbcaibflhgdoaaGreatDoor.Wp.L
open Go
def Reads (D:DataW Unit) (f:Nat→Int):Prop:=∀ (x:Int) (zd:DataW Unit),D.atKey (.int .i64 x) zd=if 0≤x∧f x.toNat≠0 then .lit (.int .i64 (f x.toNat)) else zd
theorem Zo6:Reads (.map []) fun _=>0:=fun x c=>by simp [DataW.atKey]
theorem Yl9 {D:DataW Unit} {f:Nat→Int} (g:Maps.IsMap D) (h:Reads D f) (a:Nat) {t:Int} (m:t≠0) (j:WideAt.IsKeyLit (.int .i64 (a:Int))):Reads (D.put (.int .i64 (a:Int)) (.lit (.int .i64 t))) (upd f a t):=by
 intro x o;by_cases d:x=(a:Int)
 ·subst d
  rw [Maps.atKey_put_same g j];unfold upd;simp [m]
 ·rw [Maps.atKey_put_other (by intro e;injection e with _ e;exact d e),h x o]
  by_cases c:0≤x
  ·have k:x.toNat≠a:=by omega
   unfold upd;rw [if_neg k]
  ·rw [if_neg (fun e=>c e.1),if_neg (fun e=>c e.1)]
end Go.Proofs.YtnbcaibflhgdoaaGreatDoor.Wp.L
namespace Go.Proofs.YtnbcaibflhgdoaaGreatDoor.Wp.L
open Go Go.RowKit
variable {p:Int} {R:Nat}
theorem Ym0 {a b:Int} (f:p≤2147483647) (ha:0≤a) (d:a<p) (hb:0≤b) (e:b<p):0≤a * b∧a * b<4611686018427387904:=by
 refine ⟨Int.mul_nonneg ha hb,?_⟩;have c:a * b≤2147483646 * b:=Int.mul_le_mul_of_nonneg_right j29_ hb;omega
theorem Xm5 {x:Int} (c:-9223372036854775808≤x) (d:x<9223372036854775808):wrap64 x=x:=by
 unfold wrap64;omega
theorem Zo7 {a b:Int} (e:p≤2147483647) (ha:0≤a) (c:a<p) (hb:0≤b) (d:b<p):wrap64 (a * b)=a * b:=by
 have:=Ym0 e ha c hb d;exact Xm5 j29_ j29_
theorem Ya2 {left:List Int} {l:Line} {t:Int}:subU p left l t l.lead=left:=by
 apply List.ext_getElem
 ·exact J6_
 ·intro i d c
  have:=H5_ (p:=p) (l:=l) (t:=t) (k:=l.lead) c;rw [if_neg j29_] at this;simpa [List.getD,d,c] using this
theorem Xm6 {left:List Int} {l:Line} {t:Int} {r:Nat} (h:r<left.length):(subU p left l t r).getD r 0=left.getD r 0:=by
 rw [H5_ h,if_neg j29_]
theorem Ym1 {left:List Int} {l:Line} {t:Int} {r:Nat} (h:l.lead≤r):(subU p left l t r).set r ((left.getD r 0 - t * l.left.getD r 0) % p)=subU p left l t (r+1):=by
 apply List.ext_getElem
 ·simp [J6_]
 ·intro i j g
  have c:i<left.length:=by simpa [J6_] using g
  have e:=H5_ (p:=p) (left:=left) (l:=l) (t:=t) (k:=r+1) c;have f:=H5_ (p:=p) (left:=left) (l:=l) (t:=t) (k:=r) c;rw [List.getD_eq_getElem?_getD,List.getElem?_eq_getElem g] at e;rw [List.getD_eq_getElem?_getD,List.getElem?_eq_getElem (by rw [J6_];exact c)] at f;rw [show (subU p left l t (r+1))[i]=_ from e,List.getElem_set];by_cases h3:r=i
  ·subst h3
   rw [if_pos rfl,if_pos ⟨h,j29_⟩]
  ·rw [if_neg h3,show (subU p left l t r)[i]'(by rw [J6_];exact c)=_ from f]
   by_cases d:l.lead≤i∧i<r
   ·rw [if_pos d,if_pos ⟨d.1,j29_⟩]
   ·rw [if_neg d,if_neg j29_]
def takeN (p:Int) (ls:List Line) (col:List Int) (k:Nat):List Int × (Nat→Int):=(ls.take k).foldl (stepT p) (col,fun _=>0)
theorem Ya3 {c:List Line} {col:List Int} {k:Nat} (d:k<c.length):takeN p c col (k+1)=stepT p (takeN p c col k) c[k]:=by
 unfold takeN;rw [List.take_succ_eq_append_getElem d,List.foldl_append];rfl
theorem Ym2 {c:List Line} {col:List Int}:takeN p c col c.length=takeT p c col:=by
 unfold takeN takeT;rw [List.take_length]
theorem Yz2:∀ {c:List Line} {k:Nat},Ech p R c→Ech p R (c.take k)
 | [],k,_=>by simp [Ech]
 | l :: c,0,_=>by simp [Ech]
 | l :: c,k+1,⟨h1,h2,h3⟩=>⟨h1,fun m d=>h2 m (List.mem_of_mem_take d),Yz2 h3⟩
theorem W7_ (d:0<p) {c:List Line} {col:List Int} {k:Nat} (h:Ech p R c) (hc:InR p R col):Taken p R (c.take k) col (fun _=>0) (takeN p c col k) :=
 taken d (Yz2 h) hc (fun _=>⟨j29_,d⟩) fun _ _=>rfl
theorem Ya4 {s:List Int × (Nat→Int)} {l:Line} (h:(s.1.getD l.lead 0 * l.inv) % p=0):stepT p s l=s:=if_pos h
theorem Ya5 {s:List Int × (Nat→Int)} {l:Line} {t:Int} (h:(s.1.getD l.lead 0 * l.inv) % p=t) (c:t≠0):stepT p s l=(subU p s.1 l t s.1.length,upd s.2 l.place t):=by
 subst h;exact if_neg c
end Go.Proofs.YtnbcaibflhgdoaaGreatDoor.Wp.L
namespace Go.Proofs.YtnbcaibflhgdoaaGreatDoor
open Go.RowKit
namespace Wp.L
theorem Xm7:Go.Maps.Keyed Tryz.prog 3 := Go.Maps.int_keyed Tryz.underlying3
def MapAt (w:World) (b n:Nat) (f:Nat→Int):Prop:=∃ D:DataW Unit,w.ownsMap Tryz.prog 3 (plainElem Tryz.prog 3) b n D∧Reads D f
theorem MapAt.kept {w w':World} {b n:Nat} {f:Nat→Int} {row:Option Nat} (h:MapAt w b n f) (e:w.grownBy w' row) (g:some b≠row):MapAt w' b n f:=by
 obtain ⟨D,c,d⟩:=h;exact ⟨D,c.kept e g,d⟩
theorem MapAt.lt {w:World} {b n:Nat} {f:Nat→Int} (h:MapAt w b n f):b<w.heap.size:=by
 obtain ⟨D,c,_⟩:=h;exact c.lt
theorem MapAt.mono {w:World} {b n c:Nat} {f:Nat→Int} (h:MapAt w b n f) (g:n≤c):MapAt w b c f:=by
 obtain ⟨D,d,e⟩:=h;exact ⟨D,d.mono g,e⟩
theorem MapAt.not_row {w:World} {b n:Nat} {f:Nat→Int} (h:MapAt w b n f) {base p k:Nat} {e:TypeId} {v:Value} {q:List Value} (o:w.ownsRow base e p v k q):some b≠v.ownBlock:=by
 obtain ⟨D,⟨es,s,d,_⟩,_⟩:=h;rcases o.2 with ⟨rfl,_⟩ | ⟨g,r,u,rfl,_,c,_⟩
 ·simp [Value.ownBlock]
 ·intro j
  have m:b=g:=by simpa [Value.ownBlock] using j
  subst m;rw [d] at c;cases c
def V0_ (u:Value) (b:Nat) (l:Line):List Value:=[.int .i64 (l.place:Int),u,.int .i64 (l.lead:Int),.int .i64 l.inv,.map (some b)]
def Zo8 (w:World) (B:Nat) (v:Value) (ls:List Line):Prop :=
 ∃ A c,v=.slice A ls.length c∧(ls.length≤c∧c≤maxLen∧(A=none→c=0)) ∧
  ∀ k (hk:k<ls.length),∃ (ad:Addr) (u:Value) (b:Nat),A=some ad∧ad.block<B ∧
   (w.cell? (ad.add (k * 5))=some (.int .i64 ((ls[k]).place:Int))∧w.cell? ⟨(ad.add (k * 5)).block,(ad.add (k * 5)).off+1,none⟩=some u ∧
    w.cell? ⟨(ad.add (k * 5)).block,(ad.add (k * 5)).off+2,none⟩=some (.int .i64 ((ls[k]).lead:Int))∧w.cell? ⟨(ad.add (k * 5)).block,(ad.add (k * 5)).off+3,none⟩=some (.int .i64 (ls[k]).inv) ∧
    w.cell? ⟨(ad.add (k * 5)).block,(ad.add (k * 5)).off+4,none⟩=some (.map (some b))) ∧
   Row w B u (ls[k]).left∧b<B∧MapAt w b 64 (ls[k]).by_
def flatL:List (Value × Nat × Line)→List Value
 | []=>[]
 | (u,b,l) :: r=>V0_ u b l ++ flatL r
theorem R7_:∀ (a b:List (Value × Nat × Line)),flatL (a ++ b)=flatL a ++ flatL b
 | [],b=>rfl
 | (u,c,l) :: a,b=>by simp [flatL,R7_ a b]
theorem Yz3:∀ (c:List (Value × Nat × Line)) (k i:Nat) (f:k<c.length),i<5→(flatL c)[k * 5+i]?=(V0_ c[k].1 c[k].2.1 c[k].2.2)[i]?
 | [],k,i,h,_=>absurd h x30_
 | (u,b,l) :: r,0,i,_,hi=>by
  simp only [flatL,Nat.zero_mul,Nat.zero_add,List.getElem_cons_zero];rw [List.getElem?_append_left (by simp [V0_];omega)]
 | (u,b,l) :: r,k+1,i,h,hi=>by
  have e:=Yz3 r k i (by simp at h;omega) hi;have d:(k+1) * 5+i=5+(k * 5+i):=j29_;rw [d];simp only [flatL,List.getElem_cons_succ];rw [List.getElem?_append_right (by simp [V0_]),show 5+(k * 5+i) - (V0_ u b l).length=k * 5+i by simp [V0_]];exact e
structure OwnL (w:World) (base:Nat) (v:Value) (ns:List (Value × Nat × Line)):Prop where
 own:w.ownsRow base 157 5 v ns.length (flatL ns)
 rows:∀ x∈ns,w.ownsRow base 3 1 x.1 x.2.2.left.length (ints x.2.2.left)
 maps:∀ x∈ns,base≤x.2.1∧MapAt w x.2.1 64 x.2.2.by_
theorem Xv4 (w:World) (base:Nat):OwnL w base (.slice none 0 0) []:=⟨World.ownsRow_nil _ _ _ _,fun _ h=>q37_,fun _ h=>q37_⟩
theorem OwnL.kept {w w':World} {base:Nat} {v:Value} {f:List (Value × Nat × Line)} (h:OwnL w base v f) (d:w.grownBy w' none):OwnL w' base v f:=by
 have e:∀ (u:Value),u.ownBlock=none∨u.ownBlock≠none:=fun u=>by
  rcases u.ownBlock with _ | k
  ·exact .inl rfl
  ·exact .inr x30_
 exact ⟨h.own.kept d (e v),fun x c=>(h.rows x c).kept d (e x.1),fun x c=>⟨(h.maps x c).1,(h.maps x c).2.kept d x30_⟩⟩
theorem OwnL.grow {w w':World} {base:Nat} {v m:Value} {k e:List (Value × Nat × Line)} (h:OwnL w base v k) (f:w.grownBy w' v.ownBlock) (o:w'.ownsRow base 157 5 m e.length (flatL e))
  (g:∀ x∈e,x∈k∨(w.ownsRow base 3 1 x.1 x.2.2.left.length (ints x.2.2.left)∧base≤x.2.1∧MapAt w x.2.1 64 x.2.2.by_)):OwnL w' base m e:=by
 have j:∀ x∈e,w.ownsRow base 3 1 x.1 x.2.2.left.length (ints x.2.2.left):=fun x d=>(g x d).elim (fun c=>h.rows x c) fun c=>c.1;have c:∀ x∈e,base≤x.2.1∧MapAt w x.2.1 64 x.2.2.by_:=fun x d=>(g x d).elim (fun c=>h.maps x c) fun c=>c.2;exact ⟨o,fun x d=>(j x d).kept f (Zu0 (j x d) h.own y30_),fun x d=>⟨(c x d).1,(c x d).2.kept f ((c x d).2.not_row h.own)⟩⟩
theorem OwnL.lines {w:World} {base:Nat} {v:Value} {c:List (Value × Nat × Line)} (h:OwnL w base v c):Zo8 w w.heap.size v (c.map fun x=>x.2.2):=by
 have hc:=h.own;rcases hc.2 with ⟨rfl,q⟩ | ⟨g,p,z,rfl,hb,A,r,s,_⟩
 ·have:c=[]:=List.eq_nil_of_length_eq_zero q
  subst this;exact x10_
 ·refine ⟨_,p,by rw [List.length_map],⟨by rw [List.length_map];exact r,s,fun e=>by cases e⟩,fun k hk=>?_⟩
  have o:k<c.length:=by simpa using hk
  have m:c[k]∈c:=List.getElem_mem o;have cell:∀ i u,i<5→(V0_ c[k].1 c[k].2.1 c[k].2.2)[i]?=some u→w.cell? (Addr.add ⟨g,0,none⟩ (k * 5+i))=some u:=fun i u d y =>
   World.ownsRow.cells hc (g:=g) rfl _ _ ((Yz3 c k i o d).trans y)
  have f:∀ i,(⟨((⟨g,0,none⟩:Addr).add (k * 5)).block,((⟨g,0,none⟩:Addr).add (k * 5)).off+i,none⟩:Addr)=(⟨g,0,none⟩:Addr).add (k * 5+i):=by
   intro i;unfold Addr.add;by_cases j:k * 5=0
   ·by_cases d:i=0
    ·simp [j,d]
    ·simp [j,d]
   ·simp [j]
  refine ⟨_,c[k].1,c[k].2.1,rfl,(World.ownsRow.lt hc g rfl).2,?_,?_,(h.maps _ m).2.lt,?_⟩
  ·simp only [List.getElem_map]
   refine ⟨cell 0 _ j29_ rfl,?_,?_,?_,?_⟩
   ·rw [f];exact cell 1 _ j29_ rfl
   ·rw [f];exact cell 2 _ j29_ rfl
   ·rw [f];exact cell 3 _ j29_ rfl
   ·rw [f];exact cell 4 _ j29_ rfl
  ·simp only [List.getElem_map]
   exact Row.of_own (h.rows _ m) rfl
  ·simp only [List.getElem_map]
   exact (h.maps _ m).2
end Wp.L
end Go.Proofs.YtnbcaibflhgdoaaGreatDoor
namespace Go.Proofs.YtnbcaibflhgdoaaGreatDoor
open Go.RowKit
namespace Wp.L
theorem clone_any (v:Value) (zs:List Int) (w:World) (m:Row w w.heap.size v zs) (hl:zs.length≤1048576) :
  Calls Tryz.prog 77 #[v] w fun e w'=>∃ u,e=.returned u∧w'.ownsRow w.heap.size 3 1 u zs.length (ints zs)∧Below w.heap.size w w':=by
 have o:=hid m;obtain ⟨A,c,rfl,j,h⟩:=m;rcases A with _ | D
 ·have z:zs=[]:=by
   cases zs with
   | nil=>rfl
   | cons y r =>
    obtain ⟨_,hA,_⟩:=h 0 x30_;cases hA
  subst z;obtain rfl:=j.2.2 rfl;clear h j;have B:∀ (w:World) (a:Option Addr) (n c g d:Nat),(binOp .eql 26 (.slice a n c) (.slice none g d)).run Tryz.prog w=.ok (.bool a.isNone) w:=fun w a n c g d=>Lib.run_eql_slice_nil w _ _ a n c g d Tryz.underlying26
  go_enter Tryz.func77,Tryz.ntmps77
  go_wp2;go_ret;exact ⟨_,rfl,World.ownsRow_nil _ _ _ _,Below.refl _ _⟩
 ·have k:Hid ((w.alloc (.cells #[] 3)).ownsRow w.heap.size 3 1 (.slice (some ⟨w.heap.size,0,none⟩) 0 0) ([]:List Int).length (ints [])) :=
   World.ownsRow_lit w #[] 0 (le_refl _) k31_ rfl
  have E:(zs.length:Int)≤1048576:=j29_;clear h j;have B:∀ (w:World) (a:Option Addr) (n c g d:Nat),(binOp .eql 26 (.slice a n c) (.slice none g d)).run Tryz.prog w=.ok (.bool a.isNone) w:=fun w a n c g d=>Lib.run_eql_slice_nil w _ _ a n c g d Tryz.underlying26
  go_enter Tryz.func77,Tryz.ntmps77
  go_wp2_with (at_builtin;refine Y8_ rfl _ _ rfl w.heap.size _ _ _ [] zs rfl rfl k.out (o.out.upA _) x30_ j29_ x30_ ?_)
  intro F C x q;have p:Below w.heap.size w C:=((Below.refl _ w).alloc (le_refl _) _).grown q x30_ (fun i s=>(k.out.lt i s).1);go_wp2;go_ret;exact ⟨_,rfl,x,p⟩
theorem isMap_of {w:World} {b n:Nat} {D:DataW Unit} (h:w.ownsMap Tryz.prog 3 (plainElem Tryz.prog 3) b n D):Maps.IsMap D:=by
 obtain ⟨_,_,_,_,_,c⟩:=h;exact ⟨_,c⟩
def Takes (w:World) (left:List Int) (f:Nat→Int) (e:Ending) (w':World):Prop :=
 ∃ u b,e=.returned (.tuple #[u,.map (some b)])∧w'.ownsRow w.heap.size 3 1 u left.length (ints left)∧w.heap.size≤b∧MapAt w' b 64 f∧Below w.heap.size w w'
theorem T2_ {zs:List Int} {j:Nat} (h:j<zs.length):(ints zs)[j]?=some (.int .i64 (zs.getD j 0)):=by
 simp [ints,List.getD,h]
theorem Xv5 (zs:List Int) (j:Nat) (x:Int):(ints zs).set j (.int .i64 x)=ints (zs.set j x):=by
 unfold ints;rw [List.map_set]
theorem Xv6 (p:Int) (R:Nat) (v vc:Value) (j:List Line) (col:List Int) (w:World) (zj:2≤p) (x9:p≤2147483647) (y6:Zo8 w w.heap.size v j) (hE:Ech p R j) (y5:Row w w.heap.size vc col) (hc:InR p R col) (hR:R≤64) (hn:j.length≤64) (yf:∀ l∈j,l.place<64) :
  Calls Tryz.prog 153 #[.int .i64 p,v,vc] w (Takes w (takeT p j col).1 (takeT p j col).2):=by
 have za:=hid y6;have U:=hid hE;have Hc:=hid hc;have ys:=hid yf;have xs:=hid (fun a w=>Zb8 a p w ⟨j29_,x9⟩);obtain ⟨A,c,rfl,_,y4⟩:=y6;have Hcells:=hid y4;have zi:(j.length:Int)≤64:=j29_;clear y4;have z4:=@run_makeMap Tryz.prog
 go_enter Tryz.func153,Tryz.ntmps153
 go_wp2_with fail
 refine (clone_any vc col w y5 (by rw [hc.1];omega)).mono ?_;rintro e T ⟨u,rfl,yd,y0⟩;have yr:=hid yd;have xc:=hid y0;clear y5 hE hc yd y0 yf;obtain ⟨o,S⟩:∃ o,o=T.heap.size:=⟨_,rfl⟩;have xo:Hid (MapAt (T.alloc (.map #[] 0)) o 0 (fun _=>0)):=by
  show MapAt _ _ _ _;rw [S];exact ⟨_,World.ownsMap_made T Tryz.prog 3 _,Zo6⟩
 have xt:Hid ((T.alloc (.map #[] 0)).ownsRow w.heap.size 3 1 u R (ints col)):=by
  show World.ownsRow _ _ _ _ _ _ _;rw [← Hc.out.1];exact yr.out.alloc _
 have xr:Hid (w.heap.size≤o):=by
  show _≤_;rw [S];exact xc.out.size
 have xk:Hid (Below w.heap.size w (T.alloc (.map #[] 0))):=xc.out.alloc xc.out.size _;go_wp2;rw [← S];have zb:=hid S;clear S z4
 go_loopw [19] (fun vk wr=>∃ k:Nat,vk=.int .i64 k∧k≤j.length∧wr.ownsRow w.heap.size 3 1 u R (ints (takeN p j col k).1)∧MapAt wr o k (takeN p j col k).2∧Below w.heap.size w wr) (fun vk _=>j.length - (intOf vk).toNat)
 case atStart=>exact ⟨0,rfl,Nat.zero_le _,xt.out,xo.out,xk.out⟩
 case round =>
  obtain ⟨k,rfl,hk,yc,y7,y1⟩:=hrel;clear xt xo xk;have B:=hid y1;have O:=hid y7;have F:=hid yc;clear y1 y7 yc;by_cases x8:k<j.length
  ·obtain ⟨ad,u',G,hA,hab,⟨q0,q1,q2,q3,q4⟩,yj,zc,z3⟩:=Hcells.out k x8
   subst hA;have N:=(W7_ j29_ U.out Hc.out (k:=k)).row;have yb:=Xf2 U.out _ (List.getElem_mem x8);have yk:=Ya3 (p:=p) (col:=col) x8;generalize hs:takeN p j col k=s at *
   have z7:=ys.out _ (List.getElem_mem x8);generalize hl:j[k]=l at *
   have xw:=hid yk;have x2:=hid yb;have I:=hid N;have yu:=hid yj;clear yk yb N yj hs hl z3 Hcells U;obtain ⟨lf,f⟩:=s;obtain ⟨m,M,d,h,P⟩:=l;simp only at q0 q1 q2 q3 q4 z7;have xh:d<R:=x2.out.lt;have L:=I.out.get j29_ d;have Q:=x2.out.invr;have x7:=x2.out.row.1;obtain ⟨E,H,yl,_,yh⟩:=yu.out;have yt:=hid yh;simp only at x7;rw [x7] at yl;subst yl;have yn:=hid x7;clear yh x7;simp only at L Q;obtain ⟨g,cu,rfl,z1⟩:=M8_ F.out j29_;have x5:wr.cell? ⟨g,d,none⟩=some (.int .i64 (lf.getD d 0)):=by
    rw [F.out.cellAt d j29_,T2_ (by rw [I.out.1];exact xh)]
   obtain ⟨x,xa⟩:∃ x,x=lf.getD d 0:=⟨_,rfl⟩;rw [← xa] at x5 L;have z5:=Zo7 x9 L.1 L.2 Q.1 Q.2;have zh:=Ym0 x9 L.1 L.2 Q.1 Q.2;have e0:=(B.out.cell (p:=ad.add (k * 5)) x31_).trans q0;have e1:=(B.out.cell (p:=⟨(ad.add (k * 5)).block,(ad.add (k * 5)).off+1,none⟩) x33_).trans q1;have e2:=(B.out.cell (p:=⟨(ad.add (k * 5)).block,(ad.add (k * 5)).off+2,none⟩) x33_).trans q2;have e3:=(B.out.cell (p:=⟨(ad.add (k * 5)).block,(ad.add (k * 5)).off+3,none⟩) x33_).trans q3;have e4:=(B.out.cell (p:=⟨(ad.add (k * 5)).block,(ad.add (k * 5)).off+4,none⟩) x33_).trans q4;clear q0 q1 q2 q3 q4;have x0:=hid (Blk.new wr 157 #[.int .i64 (m:Int),.slice E R H,.int .i64 (d:Int),.int .i64 h,.map (some G)]);have xf:=hid (F.out.alloc (.cells #[.int .i64 (m:Int),.slice E R H,.int .i64 (d:Int),.int .i64 h,.map (some G)] 157));have xq:=hid (O.out.kept (World.grownBy_alloc wr (.cells #[.int .i64 (m:Int),.slice E R H,.int .i64 (d:Int),.int .i64 h,.map (some G)] 157) none) x30_);have xm:=hid (B.out.alloc B.out.size (.cells #[.int .i64 (m:Int),.slice E R H,.int .i64 (d:Int),.int .i64 h,.map (some G)] 157));have xn:Hid (g≠wr.heap.size∧o≠wr.heap.size∧w.heap.size≤wr.heap.size):=by
    have h1:=(F.out.lt g rfl).2;have h2:=O.out.lt;exact ⟨j29_,j29_,B.out.size⟩
   clear x5;obtain ⟨t,ht⟩:∃ t,t=x * h % p:=⟨_,rfl⟩;have xi:=em_lt (a:=x * h) (p:=p) j29_;have Ht:=hid (fun w=>xs.out (x * h) w);rw [← ht] at xi Ht;have xx:Hid ((lf.getD d 0 * h) % p=t):=by
    show _=_;rw [← xa,ht]
   have zp:IntKind.i64.wrap (x * h)=x * h:=by
    rw [IntKind.wrap_i64];omega
   have yx:=hid xa;clear ht xa z5 F O;go_wp2;generalize wr.alloc (.cells #[.int .i64 (m:Int),.slice E R H,.int .i64 (d:Int),.int .i64 h,.map (some G)] 157)=W at *
   have x5:W.cell? ⟨g,d,none⟩=some (.int .i64 x):=by
    rw [xf.out.cellAt d j29_,T2_ (by rw [I.out.1];exact xh),← yx.out]
   generalize wr.heap.size=bx at *
   have C:=x0.out.cell 2;have d3:=x0.out.cell 3;simp only [List.getElem?_toArray,List.getElem?_cons_zero,List.getElem?_cons_succ] at C d3;have zg:(d:Int)<(R:Int):=j29_
   go_quiet ((go_at_call 178;exact Calls.quiet_of_same (Ht.out _)))
   have x3:Hid ((W.drewN nq).ownsRow w.heap.size 3 1 (.slice (some ⟨g,0,none⟩) R cu) R (ints lf)):=xf;have Z:Hid (MapAt (W.drewN nq) o k f):=xq;have X:Hid (Below w.heap.size w (W.drewN nq)):=hid (Y4_ xm.out nq);have x1:Hid (Blk (W.drewN nq) bx 157 #[.int .i64 (m:Int),.slice E R H,.int .i64 (d:Int),.int .i64 h,.map (some G)]):=x0;clear x5 C d3 xf xq xm x0;generalize W.drewN nq=W2 at *
   by_cases h0:t=0
   ·subst h0
    have K:=hid (xw.out.trans (Ya4 xx.out));go_wp2
    go_roundw
    case rel =>
     refine ⟨k+1,y31_,j29_,?_,?_,X.out⟩
     ·rw [K.out];exact x3.out
     ·rw [K.out];exact Z.out.mono (Nat.le_succ k)
    case measure=>simp [intOf];omega
   ·have zm:(t==0)=false:=by rw [beq_eq_false_iff_ne];exact h0
    have d0:=x1.out.cell 0;simp only [List.getElem?_toArray,List.getElem?_cons_zero] at d0;have C:=x1.out.cell 2;simp only [List.getElem?_toArray,List.getElem?_cons_zero,List.getElem?_cons_succ] at C;obtain ⟨D,xy,xz⟩:=Z.out;have xb:=hid xy;have xj:=hid xz;have yp:=hid (Z.out.not_row x3.out);have yw:=hid (WalkArith.wf_i64 (n:=(m:Int)) j29_);have yv:=hid (WalkArith.wf_i64 (n:=t) j29_);have D2:=hid C;clear xy xz C
    go_wp2_with (at_mapUpdate;refine wpList_mapUpdate_own _ rfl _ _ _ 147 rfl 3 3 Xm7 Tryz.underlying147 _ o k _ rfl xb.out k31_ _ _ _ rfl rfl (Maps.keyOf_int_mk Tryz.underlying3 yw.out) _ [] (plainElem_int Tryz.underlying3 yv.out) ?_)
    intro w3 y8 x6;have xp:Hid (MapAt w3 o (k+1) (upd f m t)):=⟨_,y8,Yl9 (isMap_of xb.out) xj.out m h0 trivial⟩;have xu:=hid (x3.out.kept x6 (.inr (fun e=>yp.out e.symm)));have xd:=hid (x1.out.grown x6 (by have:=xn.out.2.1;intro e;injection e with e;omega));have xl:=hid (X.out.grown x6 X.out.size (fun i hi=>by injection hi with hi;rw [← hi];exact xr.out));have C:=xd.out.cell 2;simp only [List.getElem?_toArray,List.getElem?_cons_zero,List.getElem?_cons_succ] at C;clear y8 x6 x3 Z x1 X xb xj D2 d0;have K:=hid (xw.out.trans (Ya5 xx.out h0));simp only at K;have xv:Hid (w3.ownsRow w.heap.size 3 1 (.slice (some ⟨g,0,none⟩) R cu) R (ints (subU p lf ⟨m,M,d,h,P⟩ t d))):=by
     show World.ownsRow _ _ _ _ _ _ _;rw [show subU p lf ⟨m,M,d,h,P⟩ t d=lf from Ya2 (l:=⟨m,M,d,h,P⟩)];exact xu.out
    clear xu;go_wp2
    go_loopw [13] (fun vr wq=>∃ r:Nat,vr=.int .i64 r∧d≤r∧r≤R∧wq.ownsRow w.heap.size 3 1 (.slice (some ⟨g,0,none⟩) R cu) R (ints (subU p lf ⟨m,M,d,h,P⟩ t r))∧MapAt wq o (k+1) (upd f m t) ∧
     Blk wq bx 157 #[.int .i64 (m:Int),.slice E R H,.int .i64 (d:Int),.int .i64 h,.map (some G)]∧Below w.heap.size w wq) (fun vr _=>R - (intOf vr).toNat)
    case atStart=>exact ⟨d,rfl,le_refl _,Nat.le_of_lt xh,xv.out,xp.out,xd.out,xl.out⟩
    case round =>
     clear xv xp xd xl C;obtain ⟨r,rfl,z8,zk,ye,y9,ya,y2⟩:=hrel;have J:=hid ye;have Y:=hid y9;have xe:=hid ya;have V:=hid y2;clear ye y9 ya y2;by_cases yg:r<R
     ·have yi:r<lf.length:=by rw [I.out.1];exact yg
      obtain ⟨yy,yz,z0,y3⟩:=yt.out r (by rw [yn.out];exact yg);subst yz;have ze:=(V.out.cell (p:=yy.add r) (by rw [Z2_];exact z0)).trans y3;have zd:wr.cell? ⟨g,r,none⟩=some (.int .i64 (lf.getD r 0)):=by
       rw [J.out.cellAt r j29_,T2_ (by rw [J6_];exact yi),Xm6 yi]
      have zf:wr.frozen? ⟨g,r,none⟩=false:=J.out.frozenAt r;have hy:=I.out.get j29_ r;have hz:=x2.out.row.get j29_ r;simp only at hz;have xg:=hid (Ym1 (p:=p) (left:=lf) (l:=⟨m,M,d,h,P⟩) (t:=t) (r:=r) z8);simp only at xg;generalize lf.getD r 0=y at *
      generalize M.getD r 0=z at *
      have z6:=Ym0 x9 xi.1 xi.2 hz.1 hz.2;have zn:IntKind.i64.wrap (t * z)=t * z:=k30_;have zo:IntKind.i64.wrap (y - t * z)=y - t * z:=k30_;have Hq:=hid (fun w=>xs.out (y - t * z) w);generalize (y - t * z) % p=q at *
      have d1:=xe.out.cell 1;simp only [List.getElem?_toArray,List.getElem?_cons_zero,List.getElem?_cons_succ] at d1;have zl:(r:Int)<(R:Int):=j29_;have x4:=hid (J.out.stored r (.int .i64 q));have yo:=hid (Y.out.kept x4.out.2 (by have:=Y.out.not_row J.out;exact this));have yq:=hid (xe.out.grown x4.out.2 (by have:=xn.out.1;intro e;injection e with e;omega));have ym:=hid (V.out.setCell (p:=⟨g,r,none⟩) z1 (.int .i64 q));rw [Xv5,xg.out] at x4;clear Y xe V J xg y3 z6;go_wp2;refine wp_region_still_tail 17 k29_ k29_ ?_;simp only [List.take_succ_cons,List.take_zero,List.drop_succ_cons,List.drop_zero]
      repeat still_step
      still_call (Hq.out _)
      repeat still_step
      try refine wpStill_nil ?_
      change wpList _ _ _ _ _ wr.drew;go_wp2
      go_roundw
      case rel=>exact ⟨r+1,y31_,j29_,j29_,x4.out.1,yo.out,yq.out,ym.out.drew⟩
      case measure=>simp [intOf];omega
     ·have z9:r=R:=by omega
      subst z9;go_wp2
      go_roundw
      case rel =>
       refine ⟨k+1,y31_,j29_,?_,?_,V.out⟩
       ·rw [K.out,I.out.1];exact J.out
       ·rw [K.out];exact Y.out
      case measure=>simp [intOf];omega
  ·have z2:k=j.length:=by omega
   subst z2;have N:=hid (W7_ j29_ U.out Hc.out (k:=j.length)).row;rw [Ym2] at F O N;go_wp2
   go_ret2
   refine ⟨u,o,rfl,?_,xr.out,O.out.mono hn,B.out⟩;rw [N.out.1];exact F.out
end Wp.L
end Go.Proofs.YtnbcaibflhgdoaaGreatDoor
namespace Go.Proofs.YtnbcaibflhgdoaaGreatDoor
open Go.RowKit
namespace Wp.L
theorem Zh1 (x:Int) (W:World):Calls Tryz.prog 179 #[.int .i64 x] W fun e c=>e=.returned (.bool (decide (x≠0)))∧c=W:=by
 by_cases h:x=0
 ·subst h
  exact y27_
 ·rw [decide_eq_true h]
  have d:(x != 0)=true:=by simp [h]
  exact y27_
theorem Xv7 (w:World):Tests w 179 #[] fun x=>decide (x≠0):=fun x W _=>(Zh1 x W).mono fun e g ⟨c,d⟩=>⟨c,by rw [d];exact Below.refl _ _⟩
theorem Zc4 {zs:List Int} {r:Int} (h:Found (fun x=>decide (x≠0)) 0 zs r):r=leadI zs:=by
 rcases h with ⟨rfl,h⟩ | ⟨i,f,rfl,d,e⟩
 ·exact (P3_ fun j c=>by simpa using h j c).symm
 ·exact (Zg0 f (by simpa using d) fun j c=>by simpa using e j c).symm
theorem Xv8 (v:Value) (zs:List Int) (w:World) (g:Row w w.heap.size v zs) (hl:zs.length≤1048576) :
  Calls Tryz.prog 154 #[v] w fun e w'=>e=.returned (.int .i64 (leadI zs))∧Below w.heap.size w w':=by
 have h:=hid (Zg6 179 #[] _ v zs w (enters_of Tryz.func179 k29_ rfl) g hl (Xv7 w));obtain ⟨A,c,rfl,_⟩:=g
 go_enter Tryz.func154,Tryz.ntmps154
 go_wp2_with fail
 refine (h.out).mono ?_;rintro e k ⟨r,rfl,d,hb⟩;have j:=hid (Zc4 d);clear d;go_wp2;go_ret;exact ⟨by rw [← j.out];rfl,hb⟩
def wrongB (p x:Int):Bool:=decide (x<0∨p≤x)
def badRow (p rows:Int) (col:List Int):Bool:=decide ((col.length:Int)≠rows) || col.any (wrongB p)
def elimB (p rows:Int) (cols:List (List Int)):Bool:=prB p && decide (0≤rows∧rows≤64) && decide (cols.length≤64) && !cols.any (badRow p rows)
theorem wrong_any (p x:Int) (B:Nat) (W:World) (hc:W.cell? ⟨B,0,none⟩=some (.int .i64 p)) :
  Calls Tryz.prog 149 #[.int .i64 x,.pointer (some ⟨B,0,none⟩)] W fun e c=>e=.returned (.bool (wrongB p x))∧Below W.heap.size W c:=by
 unfold wrongB;by_cases h1:x<0
 ·exact x26_
 ·exact z4_
theorem wrongtest (p:Int) (B:Nat) (w:World) (hB:B<w.heap.size) (hc:w.cell? ⟨B,0,none⟩=some (.int .i64 p)):Tests w 149 #[.pointer (some ⟨B,0,none⟩)] (wrongB p) :=
 fun x W c=>wrong_any p x B W ((c.cell (p:=⟨B,0,none⟩) hB).trans hc)
theorem badrow_any (p rows:Int) (bp d g:Nat) (v:Value) (zs:List Int) (w:World) (hbp:bp<w.heap.size) (hp:w.cell? ⟨bp,0,none⟩=some (.int .i64 p)) (j:w.cell? ⟨d,0,none⟩=some (.int .i64 rows))
  (k:w.cell? ⟨g,0,none⟩=some (.func (.func 149) #[] #[.pointer (some ⟨bp,0,none⟩)])) (hr:Row w w.heap.size v zs) (h:rows≤64) :
  Calls Tryz.prog 151 #[v,.pointer (some ⟨d,0,none⟩),.pointer (some ⟨g,0,none⟩)] w fun e w'=>e=.returned (.bool (badRow p rows zs))∧Below w.heap.size w w':=by
 unfold badRow;by_cases hl:(zs.length:Int)=rows
 ·exact x3_
 ·exact k23_
theorem badtest (p rows:Int) (bp c d:Nat) (w:World) (g:bp<w.heap.size) (j:c<w.heap.size) (k:d<w.heap.size) (m:w.cell? ⟨bp,0,none⟩=some (.int .i64 p)) (o:w.cell? ⟨c,0,none⟩=some (.int .i64 rows))
  (r:w.cell? ⟨d,0,none⟩=some (.func (.func 149) #[] #[.pointer (some ⟨bp,0,none⟩)])) (h:rows≤64) :
  Zg5 w 151 #[.pointer (some ⟨c,0,none⟩),.pointer (some ⟨d,0,none⟩)] (badRow p rows) :=
 fun u zs W e q=>badrow_any p rows bp c d u zs W (Nat.lt_of_lt_of_le g e.size) ((e.cell (p:=⟨bp,0,none⟩) g).trans m) ((e.cell (p:=⟨c,0,none⟩) j).trans o) ((e.cell (p:=⟨d,0,none⟩) k).trans r) q h
theorem prime_is (p:Int) (b:Bool) (h:prB p=b) (w:World) (c:Met w):Calls Tryz.prog 148 #[.int .i64 p] w (Gets w (.bool b)):=by
 subst h;exact N4_ p w c
theorem below_two (w:World) (c d:Obj):Below w.heap.size w ((w.alloc c).alloc d):=((Below.refl _ w).alloc (le_refl _) _).alloc x30_ _
theorem may_any (p rows:Int) (v:Value) (cols:List (List Int)) (w:World) (h:Met w) (m:Rows2 w w.heap.size v cols) :
  Calls Tryz.prog 115 #[.int .i64 p,.int .i64 rows,v] w (Says w (elimB p rows cols)):=by
 have r:=hid m;have HM:=hid h;obtain ⟨A,c,rfl,hn,_⟩:=m;have z:(cols.length:Int)≤9223372036854775807:=q33_;have Hb0:=hid (below_two w (.cells #[.int .i64 p] 3) (.cells #[.int .i64 rows] 3));clear hn h;unfold elimB;rcases hp:prB p with _ | _
 ·simp only [Bool.false_and]
  have HP:=hid hp;clear hp
  go_enter Tryz.func115,Tryz.ntmps115
  go_wp2_with fail
  refine (prime_is p false HP.out _ (HM.out.up Hb0.out)).mono ?_;exact y29_
 ·simp only [Bool.true_and]
  have HP:=hid hp;clear hp;by_cases s:rows<0
  ·exact q29_
  ·have u:0≤rows:=by omega
   clear s;by_cases x:64<rows
   ·exact q29_
   ·have g:rows≤64:=by omega
    rw [decide_eq_true (show 0≤rows∧rows≤64 from ⟨u,g⟩),Bool.true_and];clear x;by_cases h3:cols.length≤64
    ·rw [decide_eq_true h3,Bool.true_and]
     have y:(cols.length:Int)≤64:=j29_;generalize k:cols.any (badRow p rows)=cb;have q:=hid k;have o:=hid h3;clear k h3
     go_enter Tryz.func115,Tryz.ntmps115
     go_wp2_with fail
     refine (prime_is p true HP.out _ (HM.out.up Hb0.out)).mono ?_;rintro e w1 ⟨rfl,hb1⟩;have c0:w1.cell? ⟨w.heap.size,0,none⟩=some (.int .i64 p):=(hb1.cell (p:=⟨w.heap.size,0,none⟩) j30_).trans (by simp [go_sem]);have c1:w1.cell? ⟨w.heap.size+1,0,none⟩=some (.int .i64 rows):=(hb1.cell (p:=⟨w.heap.size+1,0,none⟩) x30_).trans (by simp [go_sem]);have Hb1:=hid (Z0_ Hb0.out (le_refl _) hb1);have Hs1:Hid (w.heap.size+1<w1.heap.size):=j5_;clear hb1;have d:Hid (Below w.heap.size w (w1.alloc (.cells #[.func (.func 149) #[] #[.pointer (some ⟨w.heap.size,0,none⟩)]] 72))):=Hb1.out.alloc Hb1.out.size _
     go_wp2_with fail
     refine (G3_ 151 _ (badRow p rows) _ cols _ (enters_of Tryz.func151 k29_ rfl) (r.out.up d.out) (by have:=o.out;omega) (badtest p rows w.heap.size (w.heap.size+1) w1.heap.size _ x36_ x36_ x30_ ?_ ?_ ?_ g)).mono ?_
     ·exact z14_
     ·exact k20_
     ·exact (Blk.new w1 _ _).cell 0
     rintro e B ⟨rfl,j⟩;rw [q.out];have Hb2:=hid (Z0_ d.out (le_refl _) j);clear j;exact z2_
    ·rw [decide_eq_false h3,Bool.false_and]
     have y:64<(cols.length:Int):=j29_;clear h3;exact k21_
end Wp.L
end Go.Proofs.YtnbcaibflhgdoaaGreatDoor
namespace Go.Proofs.YtnbcaibflhgdoaaGreatDoor
open Go.RowKit
namespace Wp.L
theorem Ym3 {p:Int} (h:prB p=true):∀ x,0<x→x<p→p ∣ x * invI x p - 1∧0≤invI x p∧invI x p<p:=by
 intro x j k;obtain ⟨m,o,c⟩:=prB_iff.1 h;obtain ⟨P,rfl⟩:∃ P:Nat,p=P:=⟨p.toNat,j29_⟩;obtain ⟨X,rfl⟩:∃ X:Nat,x=X:=⟨x.toNat,j29_⟩;rw [Int.toNat_natCast] at c;have g:(X:Int) % (P:Int)=X:=Int.emod_eq_of_lt j29_ j29_;obtain ⟨_,e⟩:=Xw7 h j29_ j29_ g j29_;rw [e];have q:X ^ (P - 2) % P<P:=Nat.mod_lt _ j29_;have d:=Xm0 c (Xm1 (x:=X) j29_ j29_);refine ⟨?_,j29_,j29_⟩;generalize X ^ (P - 2) % P=y at *
 have f:((y * X:Nat):Int) % (P:Int)=1:=by
  rw [← Int.natCast_emod,d];rfl
 rw [Int.mul_comm];have:=E6_ (p:=(P:Int)) ((y * X:Nat):Int);rw [f] at this;simpa using this
theorem fld_ok {p:Int} (h:prB p=true):Fld p:=by
 intro c hc;obtain ⟨g,_,_⟩:=prB_iff.1 h;have hb:=em_lt (a:=c) (p:=p) j29_;have j:c % p≠0:=fun e=>hc (Int.dvd_of_emod_eq_zero e);obtain ⟨h3,_⟩:=Ym3 h (c % p) j29_ hb.2;refine ⟨invI (c % p) p,?_⟩;have d:=Int.dvd_trans (E6_ (p:=p) c) (Int.dvd_mul_right _ (invI (c % p) p));have f:=Int.dvd_add h3 d
 rwa [show c % p * invI (c % p) p - 1+(c - c % p) * invI (c % p) p=c * invI (c % p) p - 1 by rw [Int.sub_mul];omega] at f
theorem Xw8 (a p i:Int) (b:Bool) (c:invI a p=i) (d:invB a p=b) (w:World) (e:Met w):Calls Tryz.prog 155 #[.int .i64 a,.int .i64 p] w (Gets w (.tuple #[.int .i64 i,.bool b])):=by
 subst c d;exact Xl9 a p w e
theorem Xv9:(Tryz.prog.info? 157).map (fun i=>(i.zero,i.size,i.bytes))=some (some (.agg #[.int .i64 0,.slice none 0 0,.int .i64 0,.int .i64 0,.map none]),5,56):=k29_
theorem N6_ {w:World} {ops:Array Oper} {rest:List Oper} {o:Oper} {a:Act} {Q:Exit→Act→World→Prop} (z:o.guard=none) (s x:Operand)
  (E:o.op=.call { callee:=.builtin .append,args:=#[s,x],argTypes:=#[108, 108] })
  (base:Nat) (v:Value) (d:List (Value × Nat × Line)) (u:Value) (b:Nat) (l:Line) (hs:a.eval s=v) (p:OwnL w base v d) (g:Nat) (c:a.eval x=.slice (some ⟨g,0,none⟩) 1 1) (hc:Blk w g 157 (V0_ u b l).toArray) (G:u.oneCell'=true)
  (F:w.ownsRow base 3 1 u l.left.length (ints l.left)) (D:base≤b∧MapAt w b 64 l.by_) (L:d.length≤64) (hb:base≤w.heap.size)
  (h:∀ e w',OwnL w' base e (d ++ [(u,b,l)])→w.grownBy w' v.ownBlock→wpList Tryz.prog ops Q rest (a.put o.dst e) w'):wpList Tryz.prog ops Q (o :: rest) a w:=by
 obtain ⟨K,B,H,I,J⟩:=info_parts Xv9;refine wpList_append_own_at w z s x _ E base 157 K (.agg #[.int .i64 0,.slice none 0 0,.int .i64 0,.int .i64 0,.map none]) 5 56 k29_ B H I J rfl y30_ v d.length (flatL d) hs p.own ⟨g,0,none⟩ 1 1 (V0_ u b l) c (by simp [V0_]) ?_ ?_ ?_ ?_ hb ?_
 ·intro j y C
  have f:=hc.cell j;rw [show (V0_ u b l).toArray[j]?=some y by simpa using C] at f;unfold Addr.add;by_cases m:j=0
  ·subst m
   simpa using f
  ·simpa [m] using f
 ·intro y q
  simp only [V0_,List.mem_cons,List.not_mem_nil,or_false] at q;rcases q with rfl | rfl | rfl | rfl | rfl
  ·rfl
  ·exact G
  ·rfl
  ·rfl
  ·rfl
 ·unfold maxLen;omega
 ·have:(d.length+1) * 56≤65 * 56:=Nat.mul_le_mul j29_ (le_refl _)
  omega
 ·intro e w' r k _ _
  refine h e w' (p.grow k ?_ fun x c=>?_) k
  ·rw [R7_,List.length_append]
   simpa [flatL] using r
  ·rcases List.mem_append.1 c with c | c
   ·exact .inl c
   ·obtain rfl:=List.mem_singleton.1 c
    exact .inr ⟨F,D⟩
theorem own_le {w:World} {base d:Nat} {e:TypeId} {f:Nat} {v:Value} {n:Nat} {j:List Value} (h:w.ownsRow base e f v n j) (hb:d≤base):w.ownsRow d e f v n j:=by
 obtain ⟨q,c⟩:=h;refine ⟨q,?_⟩;rcases c with c | ⟨g,o,p,k,r,m⟩
 ·exact .inl c
 ·exact .inr ⟨g,o,p,k,j29_,m⟩
def Xf8 (w:World) (ls:List Line) (e:Ending) (w':World):Prop:=∃ v,e=.returned v∧Zo8 w' w'.heap.size v ls∧Below w.heap.size w w'
theorem Xj0 (p:Int) (R:Nat) (v:Value) (cols:List (List Int)) (w:World) (hM:Met w) (X:prB p=true) (hr:Rows2 w w.heap.size v cols) (hc:Zw2 p R cols) (hR:R≤64) (hn:cols.length≤64) :
  Calls Tryz.prog 116 #[.int .i64 p,v] w (Xf8 w (K6_ p (fun x=>invI x p) cols cols.length)):=by
 have Hr:=hid hr;have HM:=hid hM;have Hc:=hid hc;have HP:=hid X;obtain ⟨h2,xx,_⟩:=prB_iff.1 X;obtain ⟨A,c,rfl,_,xb⟩:=hr;have xr:=hid xb;have y8:(cols.length:Int)≤64:=j29_;clear hM hc X xb
 go_enter Tryz.func116,Tryz.ntmps116
 go_wp2
 go_loopw [5,15] (fun vb Z wr=>∃ (k:Nat) (r:List (Value × Nat × Line)),Z=.int .i64 k∧k≤cols.length∧OwnL wr w.heap.size vb r∧r.map (fun x=>x.2.2)=K6_ p (fun x=>invI x p) cols k∧Below w.heap.size w wr) (fun _ Z _=>cols.length - (intOf Z).toNat)
 case atStart=>exact ⟨0,[],rfl,Nat.zero_le _,Xv4 _ _,rfl,Below.refl _ _⟩
 case round =>
  obtain ⟨k,r,rfl,hk,xl,xj,xa⟩:=hrel;have M:=hid xl;have h:=hid xj;have d:=hid xa;clear xl xj xa;by_cases xg:k<cols.length
  ·obtain ⟨ad,u,hA,hab,xc,xn⟩:=xr.out k xg
   subst hA;have y4:=(d.out.cell (p:=ad.add k) x31_).trans xc;have N:=hid ((xn.below d.out).mono d.out.size);have G:=W4_ j29_ (Ym3 HP.out) (cols:=cols) (k:=k) fun i hi=>Hc.out i j29_;have E:=Hc.out k xg;obtain ⟨s,F⟩:∃ s,s=cols.getD k []:=⟨_,rfl⟩;rw [← F] at E N;have xh:r.length≤64:=by
    have e1:=congrArg List.length h.out;rw [List.length_map] at e1;have e2:=congrArg List.length G.pl;rw [List.length_map] at e2;have e3:=Yi8 (p:=p) (R:=R) (cols:=cols) (k:=k);omega
   have O:=hid (G.take j29_ E);have Hlines:=hid G;have xs:=hid E;have L:Hid (K6_ p (fun x=>invI x p) cols (k+1)=addL p (fun x=>invI x p) (K6_ p (fun x=>invI x p) cols k) k s):=by
    show _=_;rw [F];rfl
   have y1:=hid F;have HlinesAt:=hid M.out.lines;clear G E F xc xn;rw [h.out] at HlinesAt;obtain ⟨m,V⟩:∃ m,m=K6_ p (fun x=>invI x p) cols k:=⟨_,rfl⟩;rw [← V] at HlinesAt O Hlines L h;have xz:m.length≤64:=by rw [← h.out,List.length_map];exact xh
   have y2:=hid V;clear V
   go_wp2_with fail
   refine (Xv6 p R _ _ m s _ h2 xx HlinesAt.out Hlines.out.ech N.out xs.out hR xz (fun l hl=>Nat.lt_of_lt_of_le (Hlines.out.lt hl) j29_)).mono ?_;rintro e w1 ⟨I,D,rfl,H,y3,W,S⟩;generalize hT:takeT p m s=T at *
   obtain ⟨lf,f⟩:=T;simp only at H W;have Q:=O.out.row;simp only at Q;have x0:=hid Q;have HT:=hid hT;have x7:=hid H;have x4:=hid W;have xp:=hid S;have HownL1:=hid (M.out.kept (Y6_ S none));have x9:=hid (Row.of_own H rfl);clear H W S Q hT O HlinesAt N
   go_wp2_with fail
   refine (Xv8 I lf w1 x9.out (by rw [x0.out.1];omega)).mono ?_;rintro e w2 ⟨rfl,o⟩;have y0:=hid o;have J:=hid (Z0_ (Z0_ d.out (le_refl _) xp.out) (le_refl _) o);have HownL2:=hid (HownL1.out.kept (Y6_ o none));have xi:I.ownBlock=none∨I.ownBlock≠none:=by
    rcases I.ownBlock with _ | q
    ·exact .inl rfl
    ·exact .inr x30_
   have C:=hid (x7.out.kept (Y6_ o none) xi);have x5:=hid (x4.out.kept (Y6_ o none) x30_);clear o xi x7 x4 HownL1 x9;rcases L2_ lf with ⟨hl,_⟩ | ⟨i,xf,hl,hx,_⟩
   ·rw [hl]
    have B:Hid (K6_ p (fun x=>invI x p) cols (k+1)=m):=by
     show _=_;rw [L.out];unfold addL;rw [HT.out,if_pos (by rw [hl];decide)]
    clear hl;go_wp2
    go_roundw
    case rel=>exact ⟨k+1,r,y31_,j29_,HownL2.out,by rw [B.out];exact h.out,J.out⟩
    case measure=>simp [intOf];omega
   ·rw [hl]
    have y7:i<R:=by rw [← x0.out.1];exact xf
    obtain ⟨g,P,rfl,y5⟩:=M8_ C.out j29_;have xd:w2.cell? ⟨g,i,none⟩=some (.int .i64 (lf.getD i 0)):=by
     rw [C.out.cellAt i j29_,T2_ xf]
    obtain ⟨x,Y⟩:∃ x,x=lf.getD i 0:=⟨_,rfl⟩;rw [← Y] at xd hx;have y6:(i:Int)<(lf.length:Int):=j29_;have B:Hid (K6_ p (fun x=>invI x p) cols (k+1)=m ++ [⟨k,lf,i,invI x p,f⟩]):=by
     show _=_;rw [L.out];unfold addL;rw [HT.out];simp only;rw [hl,if_neg j29_,Int.toNat_natCast,← Y]
    obtain ⟨j,U⟩:∃ j,j=invI x p:=⟨_,rfl⟩;obtain ⟨ok,xk⟩:∃ ok,ok=invB x p:=⟨_,rfl⟩;have x3:=hid (Xw8 x p j ok U.symm xk.symm);rw [← U] at B;have xo:=hid (HM.out.up J.out);clear hl Y U xk hx
    go_wp2_with fail
    refine (x3.out w2 xo.out).mono ?_;rintro e w3 ⟨rfl,y⟩;have x1:=hid (Z0_ J.out (le_refl _) y);have HownL3:=hid (HownL2.out.kept (Y6_ y none));have x8:=hid (C.out.kept (Y6_ y none) (.inr (by simp [Value.ownBlock])));have x6:=hid (x5.out.kept (Y6_ y none) x30_);clear y C x5 HownL2 x3 xd;have xu:=hid (Blk.new w3 157 (V0_ (.slice (some ⟨g,0,none⟩) lf.length P) D ⟨k,lf,i,j,f⟩).toArray);have z:=hid (World.grownBy_alloc w3 (.cells (V0_ (.slice (some ⟨g,0,none⟩) lf.length P) D ⟨k,lf,i,j,f⟩).toArray 157) none);have K:=hid (x1.out.alloc x1.out.size (.cells (V0_ (.slice (some ⟨g,0,none⟩) lf.length P) D ⟨k,lf,i,j,f⟩).toArray 157));have HownL4:=hid (HownL3.out.kept z.out);have xv:=hid (own_le (x8.out.kept z.out (.inr (by simp [Value.ownBlock]))) d.out.size);have xt:=hid (x6.out.kept z.out x30_);clear HownL3 x8 x6 z
    go_wp2_with (at_builtin;refine N6_ rfl _ _ rfl w.heap.size _ r _ D ⟨k,lf,i,j,f⟩ rfl HownL4.out w3.heap.size rfl xu.out rfl xv.out ⟨by have:=d.out.size;omega,xt.out⟩ xh K.out.size ?_)
    intro v5 w5 xm xe;have xq:=hid (K.out.grown xe K.out.size (fun i hi=>(HownL4.out.own.lt i hi).1));have xw:=hid xm;clear xm xe;go_wp2
    go_roundw
    case rel =>
     refine ⟨k+1,_,y31_,j29_,xw.out,?_,xq.out⟩;rw [List.map_append,h.out,B.out];rfl
    case measure=>simp [intOf];omega
  ·have xy:k=cols.length:=by omega
   subst xy;have x2:=hid M.out.lines;rw [h.out] at x2;go_wp2;go_ret;exact ⟨_,rfl,x2.out,d.out⟩
end Wp.L
end Go.Proofs.YtnbcaibflhgdoaaGreatDoor
namespace Go.Proofs.YtnbcaibflhgdoaaGreatDoor
open Go.RowKit
namespace Wp.L
theorem Xf9 (p rows:Int) (v:Value) (cols:List (List Int)) (b:Bool) (h:elimB p rows cols=b) (w:World) (c:Met w) (d:Rows2 w w.heap.size v cols) :
  Calls Tryz.prog 115 #[.int .i64 p,.int .i64 rows,v] w (Says w b):=by
 subst h;exact may_any p rows v cols w c d
theorem elimB_in {p rows:Int} {cols:List (List Int)} (h:elimB p rows cols=true):prB p=true∧∃ R:Nat,rows=(R:Int)∧R≤64∧cols.length≤64∧Zw2 p R cols:=by
 unfold elimB at h;rw [Bool.and_eq_true,Bool.and_eq_true,Bool.and_eq_true,decide_eq_true_iff,decide_eq_true_iff] at h;obtain ⟨⟨⟨f,o,h3⟩,g⟩,j⟩:=h;refine ⟨f,rows.toNat,j29_,j29_,g,fun i e=>?_⟩;have k:cols.any (badRow p rows)=false:=by simpa using j
 have c:=List.any_eq_false.1 k cols[i] (List.getElem_mem e);rw [show cols.getD i []=cols[i] by simp [List.getD,e]];unfold badRow at c;rw [Bool.or_eq_true,decide_eq_true_iff,not_or,Classical.not_not] at c;refine ⟨j29_,fun x m=>?_⟩;have d:=List.any_eq_false.1 (by simpa using c.2:cols[i].any (wrongB p)=false) x m;unfold wrongB at d;rw [decide_eq_true_iff] at d;omega
def Zh2 (p:Int) (cols:List (List Int)):List Line:=K6_ p (fun x=>invI x p) cols cols.length
def rankI (p rows:Int) (cols:List (List Int)):Int:=if elimB p rows cols then ((Zh2 p cols).length:Int) else -1
theorem linesI_lines {p:Int} {R:Nat} {cols:List (List Int)} (c:prB p=true) (hc:Zw2 p R cols):Lines p R cols cols.length (Zh2 p cols) :=
 W4_ (by have:=(prB_iff.1 c).1;omega) (Ym3 c) hc
theorem Zc5 {p:Int} {R:Nat} {cols:List (List Int)} (c:prB p=true) (hc:Zw2 p R cols):(Zh2 p cols).length≤cols.length:=by
 have e:=congrArg List.length (linesI_lines c hc).pl;rw [List.length_map] at e;have:=Yi8 (p:=p) (R:=R) (cols:=cols) (k:=cols.length);omega
theorem rank_any (p rows:Int) (v:Value) (cols:List (List Int)) (w:World) (r:Met w) (x:Rows2 w w.heap.size v cols) :
  Calls Tryz.prog 94 #[.int .i64 p,.int .i64 rows,v] w (Gets w (.int .i64 (rankI p rows cols))):=by
 have m:=hid x;have h:=hid r;obtain ⟨A,c,rfl,_⟩:=x;unfold rankI;rcases hb:elimB p rows cols with _ | _
 ·have j:=hid hb
  clear hb r;simp only [Bool.false_eq_true,if_false]
  go_enter Tryz.func94,Tryz.ntmps94
  go_wp2_with fail
  refine (Xf9 p rows _ cols false j.out w h.out m.out).mono ?_;rintro e d ⟨rfl,g⟩;go_wp2;go_ret;exact ⟨rfl,g⟩
 ·obtain ⟨o,R,rfl,y,h3,q⟩:=elimB_in hb
  have j:=hid hb;have s:=hid (fun d (z:Met d) (C:Rows2 d d.heap.size (Value.slice A cols.length c) cols)=>Xj0 p R _ cols d z o C q y h3);have E:=Zc5 o q;change Hid (∀ d,Met d→Rows2 d d.heap.size (Value.slice A cols.length c) cols→Calls Tryz.prog 116 #[.int .i64 p,.slice A cols.length c] d (Xf8 d (Zh2 p cols))) at s;generalize Zh2 p cols=ls at *
  clear hb r o q;simp only [if_true]
  go_enter Tryz.func94,Tryz.ntmps94
  go_wp2_with fail
  refine (Xf9 p R _ cols true j.out w h.out m.out).mono ?_;rintro e d ⟨rfl,g⟩;have k:=hid g;clear g
  go_wp2_with fail
  refine (s.out d (h.out.up k.out) (m.out.up k.out)).mono ?_;rintro e G ⟨F,rfl,B,u⟩;have Hb2:=hid (Z0_ k.out (le_refl _) u);obtain ⟨D,c2,rfl,_⟩:=B;clear u;exact z2_
end Wp.L
end Go.Proofs.YtnbcaibflhgdoaaGreatDoor
namespace Go.Proofs.YtnbcaibflhgdoaaGreatDoor.Wp
open Go Go.RowKit
def memP (s:List Int):Nat→Bool:=fun i=>s.contains (i:Int)
def InN (n:Nat) (s:List Int):Prop:=IsSet s∧∀ x∈s,0≤x∧x<(n:Int)
theorem memP_iff {s:List Int} {i:Nat}:memP s i=true↔(i:Int)∈s:=by unfold memP;exact List.contains_iff_mem
theorem Zc6:memP []=noneP:=by funext i;rfl
theorem W8_ {n:Int} {s:List Int} (e:0≤n) (f:n≤64):subB s (allL n)=true↔InN n.toNat s:=by
 constructor
 ·intro h
  obtain ⟨c,_,h3⟩:=subB_iff.1 h;exact ⟨c,fun x d=>by have:=(A0_ e j29_ x).1 (h3 x d);omega⟩
 ·rintro ⟨c,h3⟩
  exact Zo5 e f c fun x d=>by have:=h3 x d;omega
theorem Zo9 {l:List Nat} (h:l.Pairwise (·<·)):(l.map fun i:Nat=>(i:Int)).Pairwise (·<·):=by
 rw [List.pairwise_map];exact h.imp fun h=>by omega
theorem Zh3 (n:Nat):(List.range n).Pairwise (·<·):=List.pairwise_lt_range
theorem W9_ (n:Nat) (P:Nat→Bool):(pickN n P).Pairwise (·<·):=(Zh3 n).sublist List.filter_sublist
theorem Zh4 {n:Nat} {s:List Int} (h:InN n s):(pickN n (memP s)).map (fun i:Nat=>(i:Int))=s:=by
 refine O9_ (Zo9 (W9_ n _)) h.1.1 fun x=>?_;rw [List.mem_map];constructor
 ·rintro ⟨i,d,rfl⟩
  exact memP_iff.1 (mem_pick.1 d).2
 ·intro c
  have:=h.2 x c;refine ⟨x.toNat,mem_pick.2 ⟨j29_,memP_iff.2 ?_⟩,j29_⟩;rw [show ((x.toNat:Nat):Int)=x by omega];exact c
theorem Yz4 {α:Type} {n:Nat} {s:List Int} (h:InN n s) (f:Nat→α):s.map (fun x=>f x.toNat)=(pickN n (memP s)).map f:=by
 conv=>lhs;rw [← Zh4 h]
 rw [List.map_map];rfl
theorem V6_ {n:Nat} {s:List Int} (h:InN n s):s.length=cnt (memP s) n:=by
 conv=>lhs;rw [← Zh4 h]
 rw [List.length_map];rfl
theorem P7_ {a b:List Int} (ha:IsSet a) (hb:IsSet b):memP (Y7_ a b)=orP (memP a) (memP b):=by
 funext i
 rw [Bool.eq_iff_iff];unfold orP;rw [Bool.or_eq_true,memP_iff,memP_iff,memP_iff,Q9_ ha hb]
theorem Yz5 {n:Int} (c:0≤n) (d:n≤64) {i:Nat} (e:i<n.toNat):memP (allL n) i=true:=memP_iff.2 ((A0_ c j29_ _).2 j29_)
theorem N7_ {n:Int} {s:List Int} (c:0≤n) (d:n≤64) (hs:IsSet s) {i:Nat} (e:i<n.toNat):memP (Z4_ (allL n) s) i=notP (memP s) i:=by
 rw [Bool.eq_iff_iff,memP_iff,Y3_ (J9_ n) hs];unfold notP;rw [Bool.not_eq_true',← Bool.not_eq_true,memP_iff];exact ⟨fun h=>h.2,fun h=>⟨(A0_ c j29_ _).2 j29_,h⟩⟩
theorem Zp0 {n:Int} (c:0≤n) (e:n≤64):InN n.toNat (allL n):=⟨J9_ n,fun x d=>by have:=(A0_ c j29_ x).1 d;omega⟩
theorem J8_ {n:Int} {s:List Int} (c:0≤n) (d:n≤64) (hs:IsSet s):InN n.toNat (Z4_ (allL n) s) :=
 ⟨V8_ _ _,fun x e=>(Zp0 c d).2 x ((Y3_ (J9_ n) hs x).1 e).1⟩
theorem A3_ {n:Nat} {a b:List Int} (ha:InN n a) (hb:InN n b):InN n (Y7_ a b) :=
 ⟨M7_ a b,fun x c=>((Q9_ ha.1 hb.1 x).1 c).elim (ha.2 x) (hb.2 x)⟩
theorem Zz0 {n:Nat} {a b:List Int} (ha:InN n a) (hb:InN n b):InN n (Z4_ a b) :=
 ⟨V8_ a b,fun x c=>ha.2 x ((Y3_ ha.1 hb.1 x).1 c).1⟩
theorem Xm8 (n:Nat):InN n []:=⟨V7_,fun x c=>absurd c x30_⟩
def nN (m:Mat):Nat:=m.n.toNat
def edgOf (m:Mat) (i:Nat):Nat × Nat:=(((m.l.getD i []).getD 0 0).toNat,((m.l.getD i []).getD 1 0).toNat)
def clsOf (m:Mat) (i:Nat):Nat:=((row m 0).getD i 0).toNat
def Yz6 (m:Mat) (c:Nat):Nat:=((row m 1).getD c 0).toNat
def Yz7 (m:Mat) (i r:Nat):Prop:=(r:Int)∈m.l.getD i []
def colOf (m:Mat) (i:Nat):Nat→Int:=L.vec (m.l.getD i [])
def stayN (m:Mat) (i:Nat):Nat:=((stayL m).getD i 0).toNat
def sumR (f:Mat→(Nat→Bool)→Nat):List Mat→(Nat→Bool)→Nat
 | [],_=>0
 | x :: r,P=>f x P+sumR f r (fun i=>P (nN x+i))
noncomputable def rkP:Nat→Mat→(Nat→Bool)→Nat
 | 0,_,_=>0
 | k+1,m,P =>
  if m.t=0 then min m.a.toNat (cnt P (nN m))
  else if m.t=1 then N3_ m.a.toNat (nN m) (edgOf m) P
  else if m.t=2 then partR m.a.toNat (nN m) (clsOf m) (Yz6 m) P
  else if m.t=3 then covR (nN m) m.a.toNat (Yz7 m) P
  else if m.t=4 then linR m.b m.a.toNat (nN m) (colOf m) P
  else if m.t=5 then rkP k (inn m) (imgP (nN m) (stayN m) P)
  else if m.t=6 then rkP k (inn m) (orP (memP (row m 0)) (imgP (nN m) (stayN m) P)) - rkP k (inn m) (memP (row m 0))
  else if m.t=7 then min m.a.toNat (rkP k (inn m) P)
  else if m.t=8 then cnt P (nN m)+rkP k (inn m) (notP P) - rkP k (inn m) allP
  else sumR (rkP k) m.i P
section
variable {k:Nat} {m:Mat} {P:Nat→Bool}
theorem rkP_0 (h:m.t=0):rkP (k+1) m P=min m.a.toNat (cnt P (nN m)):=by rw [rkP,if_pos h]
theorem rkP_1 (h:m.t=1):rkP (k+1) m P=N3_ m.a.toNat (nN m) (edgOf m) P:=by rw [rkP,if_neg j29_,if_pos h]
theorem rkP_2 (h:m.t=2):rkP (k+1) m P=partR m.a.toNat (nN m) (clsOf m) (Yz6 m) P:=by rw [rkP,if_neg j29_,if_neg j29_,if_pos h]
theorem rkP_3 (h:m.t=3):rkP (k+1) m P=covR (nN m) m.a.toNat (Yz7 m) P:=by rw [rkP,if_neg j29_,if_neg j29_,if_neg j29_,if_pos h]
theorem rkP_4 (h:m.t=4):rkP (k+1) m P=linR m.b m.a.toNat (nN m) (colOf m) P:=by rw [rkP,if_neg j29_,if_neg j29_,if_neg j29_,if_neg j29_,if_pos h]
theorem rkP_5 (h:m.t=5):rkP (k+1) m P=rkP k (inn m) (imgP (nN m) (stayN m) P):=by rw [rkP,if_neg j29_,if_neg j29_,if_neg j29_,if_neg j29_,if_neg j29_,if_pos h]
theorem rkP_6 (h:m.t=6):rkP (k+1) m P=rkP k (inn m) (orP (memP (row m 0)) (imgP (nN m) (stayN m) P)) - rkP k (inn m) (memP (row m 0)):=by rw [rkP,if_neg j29_,if_neg j29_,if_neg j29_,if_neg j29_,if_neg j29_,if_neg j29_,if_pos h]
theorem rkP_7 (h:m.t=7):rkP (k+1) m P=min m.a.toNat (rkP k (inn m) P):=by rw [rkP,if_neg j29_,if_neg j29_,if_neg j29_,if_neg j29_,if_neg j29_,if_neg j29_,if_neg j29_,if_pos h]
theorem rkP_8 (h:m.t=8):rkP (k+1) m P=cnt P (nN m)+rkP k (inn m) (notP P) - rkP k (inn m) allP:=by rw [rkP,if_neg j29_,if_neg j29_,if_neg j29_,if_neg j29_,if_neg j29_,if_neg j29_,if_neg j29_,if_neg j29_,if_pos h]
theorem rkP_9 (h:9≤m.t):rkP (k+1) m P=sumR (rkP k) m.i P:=by rw [rkP,if_neg j29_,if_neg j29_,if_neg j29_,if_neg j29_,if_neg j29_,if_neg j29_,if_neg j29_,if_neg j29_,if_neg j29_]
end
theorem Zp1 {m:Mat} (h:chk m=0):0≤m.t∧m.t<10:=(X2_ (Y5_ h)).1
theorem chk_a {m:Mat} (h:chk m=0):0≤m.a∧m.a≤64:=by have:=(X2_ (Y5_ h)).2.1;omega
theorem Z7_ {m:Mat} (h:chk m=0):(nN m:Int)=m.n∧nN m≤64:=by have:=chk_n h;unfold nN;omega
theorem D7_ {α:Type} {l:List α} {i:Nat} (d:α) (h:i<l.length):l.getD i d∈l:=z21_
theorem Zp2 {l:List Int} {c below:Int} (h:numsB l c below=true):(l.length:Int)=c∧∀ i,i<l.length→0≤l.getD i 0∧l.getD i 0<below:=by
 unfold numsB at h;rw [Bool.and_eq_true,decide_eq_true_iff,Bool.not_eq_true',List.any_eq_false] at h;refine ⟨h.1,fun i d=>?_⟩;have:=h.2 _ (D7_ 0 d);unfold outB at this;rw [decide_eq_true_iff] at this;omega
theorem N8_ {m:Mat} (h:chk m=0) (d:m.t=1):1≤m.a∧(m.l.length:Int)=m.n∧∀ i,i<m.l.length→((m.l.getD i []).length:Int)=2∧∀ j,j<(m.l.getD i []).length→0≤(m.l.getD i []).getD j 0∧(m.l.getD i []).getD j 0<m.a:=by
 obtain ⟨_,_,h3,c⟩:=X2_ (Y5_ h);have hl:=(takes_iff.1 h3).2.2.1;rw [d] at hl;have g:(m.l.length:Int)=m.n:=hl;have e:fitsB m=(decide (1≤m.a) && !m.l.any (edgeB m.a)):=by
  unfold fitsB;rw [if_neg j29_,if_pos d]
 rw [e,Bool.and_eq_true,decide_eq_true_iff,Bool.not_eq_true',List.any_eq_false] at c;refine ⟨c.1,g,fun i f=>?_⟩;have:=c.2 _ (D7_ [] f);unfold edgeB at this;have k:numsB (m.l.getD i []) 2 m.a=true:=by
  cases hb:numsB (m.l.getD i []) 2 m.a
  ·rw [hb] at this;exact absurd rfl this
  ·rfl
 exact Zp2 k
theorem Yz8 {m:Mat} (h:chk m=0) (d:m.t=2):m.l.length=2∧((row m 0).length:Int)=m.n∧((row m 1).length:Int)=m.a∧(∀ i,i<(row m 0).length→0≤(row m 0).getD i 0∧(row m 0).getD i 0<m.a)∧∀ i,i<(row m 1).length→0≤(row m 1).getD i 0∧(row m 1).getD i 0<65:=by
 obtain ⟨_,_,h3,c⟩:=X2_ (Y5_ h);have hl:=(takes_iff.1 h3).2.2.1;rw [d] at hl;have f:(m.l.length:Int)=2:=hl;have e:fitsB m=(numsB (row m 0) m.n m.a && numsB (row m 1) m.a 65):=by
  unfold fitsB;rw [if_neg j29_,if_neg j29_,if_pos d]
 rw [e,Bool.and_eq_true] at c;have a:=Zp2 c.1;have b:=Zp2 c.2;exact ⟨j29_,a.1,b.1,a.2,b.2⟩
theorem Ym4 {m:Mat} (h:chk m=0) (d:m.t=3):(m.l.length:Int)=m.n∧mayM m.a m.l=true:=by
 obtain ⟨_,_,h3,c⟩:=X2_ (Y5_ h);have hl:=(takes_iff.1 h3).2.2.1;rw [d] at hl;have e:fitsB m=mayM m.a m.l:=by
  unfold fitsB;rw [if_neg j29_,if_neg j29_,if_neg j29_,if_pos d]
 rw [e] at c;exact ⟨hl,c⟩
theorem Ym5 {m:Mat} (h:chk m=0) (d:m.t=4):(m.l.length:Int)=m.n∧elimB m.b m.a m.l=true:=by
 obtain ⟨_,_,h3,c⟩:=X2_ (Y5_ h);have hl:=(takes_iff.1 h3).2.2.1;rw [d] at hl;have e:fitsB m=elimB m.b m.a m.l:=by
  unfold fitsB;rw [if_neg j29_,if_neg j29_,if_neg j29_,if_neg j29_,if_pos d]
 rw [e] at c;exact ⟨hl,c⟩
theorem B1_ {m:Mat} (h:chk m=0) (k:5≤m.t∧m.t≤8):m.i=[inn m]∧chk (inn m)=0∧dp 4 (inn m)<dp 4 m:=by
 have h3:=(takes_iff.1 (X2_ (Y5_ h)).2.2.1).2.2.2;have d:m.i.length=1:=by
  rcases (by omega:m.t=5∨m.t=6∨m.t=7∨m.t=8) with e | e | e | e
  all_goals
   rw [e] at h3;have g:(1:Int)≤(m.i.length:Int):=h3.1;have j:(m.i.length:Int)≤1:=h3.2;omega
 have c:=Yl6 (m:=m) j29_;obtain ⟨x,f⟩:=List.length_eq_one_iff.1 d;refine ⟨?_,(within h c).1,(within h c).2⟩;rw [f] at c ⊢;rw [List.mem_singleton.1 c]
theorem T3_ {m:Mat} (h:chk m=0) (f:m.t=7∨m.t=8):m.n=(inn m).n:=by
 obtain ⟨d,e,_⟩:=B1_ h j29_;have c:=(X2_ (Y5_ h)).2.2.2;rw [K3_ j29_,decide_eq_true_iff,d,Xm3 _ e] at c;exact c
theorem Zp3 {m:Mat} (h:chk m=0) (k:m.t=5∨m.t=6):InN (nN (inn m)) (row m 0):=by
 obtain ⟨_,g,_⟩:=B1_ h j29_;have f:=chk_n g;have c:=(X2_ (Y5_ h)).2.2.2;have j:partB m=true:=by
  rcases k with e | e
  ·have d:fitsB m=(partB m && decide (m.n=(row m 0).length)):=y15_
   rw [d,Bool.and_eq_true] at c;exact c.1
  ·have d:fitsB m=(partB m && decide (IntKind.i64.wrap (m.n+(row m 0).length)=(inn m).n)):=z13_
   rw [d,Bool.and_eq_true] at c;exact c.1
 exact (W8_ f.1 f.2).1 j
theorem T4_ {m:Mat} (h:chk m=0) (e:m.t=5∨m.t=6):InN (nN (inn m)) (stayL m)∧(stayL m).length=nN m:=by
 obtain ⟨_,f,_⟩:=B1_ h j29_;have c:=chk_n f;have d:=Zp3 h e;refine ⟨?_,by have:=Zc2 h e;have:=Z7_ h;omega⟩;unfold stayL;split
 ·exact J8_ c.1 c.2 d.1
 ·exact d
theorem G5_ {m:Mat} (h:chk m=0) (d:m.t=5∨m.t=6) {i:Nat} (f:i<nN m):((stayN m i:Nat):Int)=(stayL m).getD i 0∧stayN m i<nN (inn m):=by
 obtain ⟨c,e⟩:=T4_ h d;have:=c.2 _ (D7_ 0 (show i<(stayL m).length by omega));unfold stayN;omega
theorem Zh5 {m:Mat} (h:chk m=0) (d:m.t=5∨m.t=6) {i j:Nat} (k:i<nN m) (o:j<nN m) (e:stayN m i=stayN m j):i=j:=by
 obtain ⟨g,r⟩:=T4_ h d;have a:=(G5_ h d k).1;have b:=(G5_ h d o).1;have f:=List.pairwise_iff_getElem.1 g.1.1;have p:(stayL m).getD i 0=(stayL m)[i]'j29_:=by simp [List.getD,show i<(stayL m).length by omega]
 have q:(stayL m).getD j 0=(stayL m)[j]'j29_:=by simp [List.getD,show j<(stayL m).length by omega]
 rcases Nat.lt_trichotomy i j with c | c | c
 ·have:=f i j j29_ j29_ c;omega
 ·exact c
 ·have:=f j i j29_ j29_ c;omega
theorem Ym6 {m:Mat} (h:chk m=0) (c:m.t=6) {i:Nat} (e:i<nN m):memP (row m 0) (stayN m i)=false:=by
 obtain ⟨g,j⟩:=T4_ h (.inr c);have f:=Zp3 h (.inr c);have a:=G5_ h (.inr c) e;have d:=D7_ 0 (show i<(stayL m).length by omega);rw [← a.1] at d;rw [show stayL m=Z4_ (allL (inn m).n) (row m 0) from if_pos c] at d;rw [← Bool.not_eq_true,memP_iff];exact ((Y3_ (J9_ _) f.1 _).1 d).2
theorem Yz9 {m:Mat} {s:List Int} (h:chk m=0) (c:m.t=5∨m.t=6) (hs:InN (nN m) s):memP (imgM m s)=imgP (nN m) (stayN m) (memP s):=by
 funext y
 rw [Bool.eq_iff_iff,memP_iff,imgP_iff];unfold imgM;rw [List.mem_map];constructor
 ·rintro ⟨x,d,e⟩
  have:=hs.2 x d;refine ⟨x.toNat,j29_,memP_iff.2 (by rw [show ((x.toNat:Nat):Int)=x by omega];exact d),?_⟩;have:=(G5_ h c (i:=x.toNat) j29_).1;omega
 ·rintro ⟨i,f,g,rfl⟩
  refine ⟨i,memP_iff.1 g,?_⟩;rw [show ((i:Nat):Int).toNat=i from rfl,(G5_ h c f).1]
theorem Ym7 {m:Mat} {s:List Int} (h:chk m=0) (e:m.t=5∨m.t=6) (hs:InN (nN m) s):InN (nN (inn m)) (imgM m s):=by
 obtain ⟨d,g⟩:=T4_ h e;have hb:∀ x∈imgM m s,0≤x∧x<(nN (inn m):Int):=fun x c=>by
  obtain ⟨z,f,rfl⟩:=List.mem_map.1 c;have:=hs.2 z f;exact d.2 _ (D7_ 0 j29_)
 refine ⟨⟨?_,fun x c=>?_⟩,hb⟩
 ·unfold imgM
  rw [List.pairwise_map];refine hs.1.1.imp_of_mem fun {a b} ha hb hab=>?_;have ha:=hs.2 a ha;have hb:=hs.2 b hb;have:=List.pairwise_iff_getElem.1 d.1.1 a.toNat b.toNat j29_ j29_ j29_;rw [show (stayL m).getD a.toNat 0=(stayL m)[a.toNat]'j29_ by simp [List.getD,show a.toNat<(stayL m).length by omega],show (stayL m).getD b.toNat 0=(stayL m)[b.toNat]'j29_ by simp [List.getD,show b.toNat<(stayL m).length by omega]];exact this
 ·have:=hb x c
  obtain ⟨_,h3,_⟩:=B1_ h j29_;have:=Z7_ h3;exact ⟨(hb x c).1,by unfold nN at *;omega⟩
theorem Ym8 {f:Mat→(Nat→Bool)→Nat}:∀ {l:List Mat},(∀ x∈l,Rk (nN x) (f x))→Rk ((l.map nN).sum) (sumR f l)
 | [],_=>⟨fun _=>rfl,rfl,fun h=>absurd h x30_,fun h=>absurd h x30_,fun h=>absurd h x30_⟩
 | x :: r,h=>by
  rw [List.map_cons,List.sum_cons];exact Xu5 (h x x30_) (Ym8 fun y c=>h y (by simp [c]))
theorem Xm9 {l:List Mat} (h:∀ x∈l,0≤x.n∧x.n≤64) (hl:l.length≤10):(((l.map nN).sum:Nat):Int)=tog l:=by
 have e:∀ (j:Nat),j≤l.length→((((l.take j).map nN).sum:Nat):Int)=tog (l.take j):=by
  intro j
  induction j with
  | zero=>intro _;simp [tog]
  | succ j c =>
   intro f;have c:=c j29_;have hb:=Yl4 (l:=l.take j) (fun x d=>h x (List.mem_of_mem_take d)) k33_;rw [List.length_take] at hb;have d:=h _ (List.getElem_mem (show j<l.length by omega));rw [List.take_succ_eq_append_getElem j29_,Xv2,J1_ j29_ j29_,← c,List.map_append,List.sum_append];simp only [List.map_cons,List.map_nil,List.sum_cons,List.sum_nil];unfold nN;omega
 have:=e l.length (le_refl _)
 rwa [List.take_length] at this
theorem Ym9 {m:Mat} (h:chk m=0) (d:m.t=9):(m.i.map nN).sum=nN m∧m.i.length≤8:=by
 have h3:=(takes_iff.1 (X2_ (Y5_ h)).2.2.1).2.2.2;rw [d] at h3;have f:(m.i.length:Int)≤8:=h3.2;have c:=(X2_ (Y5_ h)).2.2.2;rw [K3_ j29_,decide_eq_true_iff] at c;have:=Xm9 (l:=m.i) (fun x e=>chk_n (within h e).1) j29_;have:=Z7_ h;omega
theorem rk_ok:∀ (k:Nat) (m:Mat),chk m=0→dp 4 m≤k→Rk (nN m) (rkP k m)
 | 0,m,_,hd=>absurd hd x37_
 | k+1,m,h,hd=>by
  have u:=Zp1 h;have o:∀ {n:Nat} {f g:(Nat→Bool)→Nat},(∀ P,f P=g P)→Rk n g→Rk n f:=fun {n f g} e h=>by rw [show f=g from funext e];exact h
  rcases (by omega:m.t=0∨m.t=1∨m.t=2∨m.t=3∨m.t=4∨m.t=5∨m.t=6∨m.t=7∨m.t=8∨m.t=9) with c | c | c | c | c | c | c | c | c | c
  ·exact o (fun P=>rkP_0 c) (Zw3 (Zb5 _) _)
  ·refine o (fun P=>rkP_1 c) (Xy7 fun i d=>?_)
   obtain ⟨_,s,h2⟩:=N8_ h c;have:=Z7_ h;exact k7_
  ·refine o (fun P=>rkP_2 c) (Yk3 fun i d=>?_)
   obtain ⟨_,s,_,h3,_⟩:=Yz8 h c;have:=Z7_ h;have:=h3 i j29_;unfold clsOf;omega
  ·exact o (fun P=>rkP_3 c) (Xu7 _ _ _)
  ·have:=(Ym5 h c).2
   unfold elimB at this;simp only [Bool.and_eq_true] at this;exact o (fun P=>rkP_4 c) (Xu6 (L.fld_ok this.1.1.1) _)
  ·obtain ⟨_,h2,h3⟩:=B1_ h j29_
   have p:=rk_ok k (inn m) h2 j29_;refine o (fun P=>?_) (Xf3 p (k:=nN m) (fun i j d q e=>Zh5 h (.inl c) d q e) (fun i d=>(G5_ h (.inl c) d).2) noneP (fun _ _=>rfl));rw [rkP_5 c,p.zero,Nat.sub_zero,show orP noneP (imgP (nN m) (stayN m) P)=imgP (nN m) (stayN m) P from by funext i;simp [orP,noneP]]
  ·obtain ⟨_,h2,h3⟩:=B1_ h j29_
   have p:=rk_ok k (inn m) h2 j29_;exact o (fun P=>rkP_6 c) (Xf3 p (k:=nN m) (fun i j d q e=>Zh5 h (.inr c) d q e) (fun i d=>(G5_ h (.inr c) d).2) (memP (row m 0)) (fun i d=>Ym6 h c d))
  ·obtain ⟨_,h2,h3⟩:=B1_ h j29_
   have p:=rk_ok k (inn m) h2 j29_;have e:nN m=nN (inn m):=by unfold nN;rw [T3_ h (.inl c)]
   rw [e];exact o (fun P=>rkP_7 c) (Zw3 p _)
  ·obtain ⟨_,h2,h3⟩:=B1_ h j29_
   have p:=rk_ok k (inn m) h2 j29_;have e:nN m=nN (inn m):=by unfold nN;rw [T3_ h (.inr c)]
   rw [e];exact o (fun P=>by rw [rkP_8 c,e]) (Xk5 p)
  ·have p:∀ x∈m.i,Rk (nN x) (rkP k x):=fun x r=>rk_ok k x (within h r).1 (by have:=(within h r).2;omega)
   rw [← (Ym9 h c).1];exact o (fun P=>rkP_9 j29_) (Ym8 p)
end Go.Proofs.YtnbcaibflhgdoaaGreatDoor.Wp
