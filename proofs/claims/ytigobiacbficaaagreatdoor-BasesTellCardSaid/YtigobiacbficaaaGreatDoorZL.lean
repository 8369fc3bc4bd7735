/- The program's takeOff, walked. The program's rank of columns, walked. -/
import Derived.Test.YtigobiacbficaaaGreatDoorZP
import Derived.Maps.RangeWalk
import Derived.Maps.OwnSet
import Derived.WalkKit
import Derived.Test.YtigobiacbficaaaGreatDoorZA
import Derived.Deep.OwnRows
import Derived.Test.YtigobiacbficaaaGreatDoorZM
import Derived.Maps.OwnOps
import Derived.StillTailTactics
import Derived.IntWalk
import Derived.Lib.SliceRun
import Derived.Test.YtigobiacbficaaaGreatDoorZE
import Derived.Shelf.Abstract
import Derived.Laws.EntriesVeiled
import Derived.Maps.AppendAt
import Derived.Test.YtigobiacbficaaaGreatDoorX0A
import Derived.Test.YtigobiacbficaaaGreatDoorX0B
set_option maxHeartbeats 8000000
set_option maxRecDepth 100000
open Go.Lib (hid)
open Nat (le_refl)
namespace Go.Proofs.YtigobiacbficaaaGreatDoor.Wp
private theorem k30_ {P:Prop} (h:P:=by
 go_enter Tryz.func105,Tryz.ntmps105
 go_wp2_with fail
 refine (prime_is p true HP.out _ (HM.out.up Hb0.out)).mono ?_
 rintro e w1 ⟨rfl,hb1⟩
 have c0:w1.cell? ⟨w.heap.size,0,none⟩=some (.int .i64 p):=(hb1.cell (p:=⟨w.heap.size,0,none⟩) (by simp;omega)).trans (by simp [go_sem])
 have c1:w1.cell? ⟨w.heap.size+1,0,none⟩=some (.int .i64 rows):=(hb1.cell (p:=⟨w.heap.size+1,0,none⟩) (by simp)).trans (by simp [go_sem])
 have Hb1:=hid (Z0_ Hb0.out (le_refl _) hb1)
 have Hs1:Hid (w.heap.size+1<w1.heap.size):=k7_
 clear hb1
 exact k1_):P:=h
private theorem z39_ {P:Prop} (h:P:=by
 rw [decide_eq_false (show ¬ (0≤rows∧rows≤64) by omega)]
 simp only [Bool.false_and]
 exact k30_):P:=h
end Go.Proofs.YtigobiacbficaaaGreatDoor.Wp
namespace Go.Proofs.YtigobiacbficaaaGreatDoor.Wp.L
open Go
def Reads (D:DataW Unit) (f:Nat→Int):Prop:=∀ (x:Int) (zd:DataW Unit),D.atKey (.int .i64 x) zd=if 0≤x∧f x.toNat≠0 then .lit (.int .i64 (f x.toNat)) else zd
theorem Yh1:Reads (.map []) fun _=>0:=fun x c=>by simp [DataW.atKey]
theorem Xh4 {D:DataW Unit} {f:Nat→Int} (g:Maps.IsMap D) (h:Reads D f) (a:Nat) {t:Int} (m:t≠0) (j:WideAt.IsKeyLit (.int .i64 (a:Int))):Reads (D.put (.int .i64 (a:Int)) (.lit (.int .i64 t))) (upd f a t):=by
 intro x o;by_cases d:x=(a:Int)
 ·subst d
  rw [Maps.atKey_put_same g j];unfold upd;simp [m]
 ·rw [Maps.atKey_put_other (by intro e;injection e with _ e;exact d e),h x o]
  by_cases c:0≤x
  ·have k:x.toNat≠a:=by omega
   unfold upd;rw [if_neg k]
  ·rw [if_neg (fun e=>c e.1),if_neg (fun e=>c e.1)]
open Go.RowKit
variable {p:Int} {R:Nat}
theorem Yv4 {a b:Int} (f:p≤2147483647) (ha:0≤a) (d:a<p) (hb:0≤b) (e:b<p):0≤a * b∧a * b<4611686018427387904:=by
 refine ⟨Int.mul_nonneg ha hb,?_⟩;have c:a * b≤2147483646 * b:=Int.mul_le_mul_of_nonneg_right y40_ hb;omega
theorem Vo5 {x:Int} (c:-9223372036854775808≤x) (h2:x<9223372036854775808):wrap64 x=x:=by
 unfold wrap64;omega
theorem Zd4 {a b:Int} (e:p≤2147483647) (ha:0≤a) (c:a<p) (hb:0≤b) (d:b<p):wrap64 (a * b)=a * b:=by
 have:=Yv4 e ha c hb d;exact Vo5 y40_ y40_
theorem Xx9 {left:List Int} {l:Line} {t:Int}:subU p left l t l.lead=left:=by
 apply List.ext_getElem
 ·exact Q6_
 ·intro i c h2
  have:=N9_ (p:=p) (l:=l) (t:=t) (k:=l.lead) h2;rw [if_neg y40_] at this;simpa [List.getD,c,h2] using this
theorem Vo6 {left:List Int} {l:Line} {t:Int} {r:Nat} (h:r<left.length):(subU p left l t r).getD r 0=left.getD r 0:=by
 rw [N9_ h,if_neg y40_]
theorem Xh5 {left:List Int} {l:Line} {t:Int} {r:Nat} (h:l.lead≤r):(subU p left l t r).set r ((left.getD r 0 - t * l.left.getD r 0) % p)=subU p left l t (r+1):=by
 apply List.ext_getElem
 ·simp [Q6_]
 ·intro i g h2
  have c:i<left.length:=by simpa [Q6_] using h2
  have e:=N9_ (p:=p) (left:=left) (l:=l) (t:=t) (k:=r+1) c;have f:=N9_ (p:=p) (left:=left) (l:=l) (t:=t) (k:=r) c;rw [List.getD_eq_getElem?_getD,List.getElem?_eq_getElem h2] at e;rw [List.getD_eq_getElem?_getD,List.getElem?_eq_getElem (by rw [Q6_];exact c)] at f;rw [show (subU p left l t (r+1))[i]=_ from e,List.getElem_set];by_cases h3:r=i
  ·subst h3
   rw [if_pos rfl,if_pos ⟨h,y40_⟩]
  ·rw [if_neg h3,show (subU p left l t r)[i]'(by rw [Q6_];exact c)=_ from f]
   by_cases d:l.lead≤i∧i<r
   ·rw [if_pos d,if_pos ⟨d.1,y40_⟩]
   ·rw [if_neg d,if_neg y40_]
def takeN (p:Int) (ls:List Line) (col:List Int) (k:Nat):List Int × (Nat→Int):=(ls.take k).foldl (stepT p) (col,fun _=>0)
theorem Xv0 {c:List Line} {col:List Int} {k:Nat} (d:k<c.length):takeN p c col (k+1)=stepT p (takeN p c col k) c[k]:=by
 unfold takeN;rw [List.take_succ_eq_append_getElem d,List.foldl_append];rfl
theorem Xh6 {c:List Line} {col:List Int}:takeN p c col c.length=takeT p c col:=by
 unfold takeN takeT;rw [List.take_length]
theorem Yr1:∀ {c:List Line} {k:Nat},Ech p R c→Ech p R (c.take k)
 | [],k,_=>by simp [Ech]
 | l :: c,0,_=>by simp [Ech]
 | l :: c,k+1,⟨h1,h2,h3⟩=>⟨h1,fun m d=>h2 m (List.mem_of_mem_take d),Yr1 h3⟩
theorem Zd5 (d:0<p) {c:List Line} {col:List Int} {k:Nat} (h:Ech p R c) (hc:InR p R col):Taken p R (c.take k) col (fun _=>0) (takeN p c col k) :=
 taken d (Yr1 h) hc (fun _=>⟨y40_,d⟩) fun _ _=>rfl
theorem Xv1 {s:List Int × (Nat→Int)} {l:Line} (h:(s.1.getD l.lead 0 * l.inv) % p=0):stepT p s l=s:=if_pos h
theorem Xv2 {s:List Int × (Nat→Int)} {l:Line} {t:Int} (h:(s.1.getD l.lead 0 * l.inv) % p=t) (c:t≠0):stepT p s l=(subU p s.1 l t s.1.length,upd s.2 l.place t):=by
 subst h;exact if_neg c
end Go.Proofs.YtigobiacbficaaaGreatDoor.Wp.L
namespace Go.Proofs.YtigobiacbficaaaGreatDoor.Wp.L
open Go.RowKit
theorem Vo7:Go.Maps.Keyed Tryz.prog 3 := Go.Maps.int_keyed Tryz.underlying3
def MapAt (w:World) (b n:Nat) (f:Nat→Int):Prop:=∃ D:DataW Unit,w.ownsMap Tryz.prog 3 (plainElem Tryz.prog 3) b n D∧Reads D f
theorem MapAt.kept {w w':World} {b n:Nat} {f:Nat→Int} {row:Option Nat} (h:MapAt w b n f) (d:w.grownBy w' row) (e:some b≠row):MapAt w' b n f:=by
 obtain ⟨D,c,h2⟩:=h;exact ⟨D,c.kept d e,h2⟩
theorem MapAt.lt {w:World} {b n:Nat} {f:Nat→Int} (h:MapAt w b n f):b<w.heap.size:=by
 obtain ⟨D,c,_⟩:=h;exact c.lt
theorem MapAt.mono {w:World} {b n c:Nat} {f:Nat→Int} (h:MapAt w b n f) (e:n≤c):MapAt w b c f:=by
 obtain ⟨D,d,h2⟩:=h;exact ⟨D,d.mono e,h2⟩
theorem MapAt.not_row {w:World} {b n:Nat} {f:Nat→Int} (h:MapAt w b n f) {base size k:Nat} {e:TypeId} {v:Value} {p:List Value} (o:w.ownsRow base e size v k p):some b≠v.ownBlock:=by
 obtain ⟨D,⟨es,r,d,_⟩,_⟩:=h;rcases o.2 with ⟨rfl,_⟩ | ⟨g,q,s,rfl,_,c,_⟩
 ·simp [Value.ownBlock]
 ·intro j
  have m:b=g:=by simpa [Value.ownBlock] using j
  subst m;rw [d] at c;cases c
def V8_ (u:Value) (b:Nat) (l:Line):List Value:=[.int .i64 (l.place:Int),u,.int .i64 (l.lead:Int),.int .i64 l.inv,.map (some b)]
def Yh2 (w:World) (B:Nat) (v:Value) (ls:List Line):Prop :=
 ∃ A c,v=.slice A ls.length c∧(ls.length≤c∧c≤maxLen∧(A=none→c=0)) ∧
  ∀ k (hk:k<ls.length),∃ (ad:Addr) (u:Value) (b:Nat),A=some ad∧ad.block<B ∧
   (w.cell? (ad.add (k * 5))=some (.int .i64 ((ls[k]).place:Int))∧w.cell? ⟨(ad.add (k * 5)).block,(ad.add (k * 5)).off+1,none⟩=some u ∧
    w.cell? ⟨(ad.add (k * 5)).block,(ad.add (k * 5)).off+2,none⟩=some (.int .i64 ((ls[k]).lead:Int))∧w.cell? ⟨(ad.add (k * 5)).block,(ad.add (k * 5)).off+3,none⟩=some (.int .i64 (ls[k]).inv) ∧
    w.cell? ⟨(ad.add (k * 5)).block,(ad.add (k * 5)).off+4,none⟩=some (.map (some b))) ∧
   Row w B u (ls[k]).left∧b<B∧MapAt w b 64 (ls[k]).by_
def flatL:List (Value × Nat × Line)→List Value
 | []=>[]
 | (u,b,l) :: r=>V8_ u b l ++ flatL r
theorem Zj5:∀ (a b:List (Value × Nat × Line)),flatL (a ++ b)=flatL a ++ flatL b
 | [],b=>rfl
 | (u,c,l) :: a,b=>by simp [flatL,Zj5 a b]
theorem Yr2:∀ (c:List (Value × Nat × Line)) (k i:Nat) (f:k<c.length),i<5→(flatL c)[k * 5+i]?=(V8_ c[k].1 c[k].2.1 c[k].2.2)[i]?
 | [],k,i,h,_=>absurd h k40_
 | (u,b,l) :: r,0,i,_,hi=>by
  simp only [flatL,Nat.zero_mul,Nat.zero_add,List.getElem_cons_zero];rw [List.getElem?_append_left (by simp [V8_];omega)]
 | (u,b,l) :: r,k+1,i,h,hi=>by
  have e:=Yr2 r k i (by simp at h;omega) hi;have d:(k+1) * 5+i=5+(k * 5+i):=y40_;rw [d];simp only [flatL,List.getElem_cons_succ];rw [List.getElem?_append_right (by simp [V8_]),show 5+(k * 5+i) - (V8_ u b l).length=k * 5+i by simp [V8_]];exact e
structure OwnL (w:World) (base:Nat) (v:Value) (ns:List (Value × Nat × Line)):Prop where
 own:w.ownsRow base 135 5 v ns.length (flatL ns)
 rows:∀ x∈ns,w.ownsRow base 3 1 x.1 x.2.2.left.length (ints x.2.2.left)
 maps:∀ x∈ns,base≤x.2.1∧MapAt w x.2.1 64 x.2.2.by_
theorem Vx4 (w:World) (base:Nat):OwnL w base (.slice none 0 0) []:=⟨World.ownsRow_nil _ _ _ _,fun _ h=>(by cases h),fun _ h=>(by cases h)⟩
theorem OwnL.kept {w w':World} {base:Nat} {v:Value} {f:List (Value × Nat × Line)} (h:OwnL w base v f) (d:w.grownBy w' none):OwnL w' base v f:=by
 have e:∀ (u:Value),u.ownBlock=none∨u.ownBlock≠none:=fun u=>by
  rcases u.ownBlock with _ | k
  ·exact .inl rfl
  ·exact .inr k40_
 exact ⟨h.own.kept d (e v),fun x c=>(h.rows x c).kept d (e x.1),fun x c=>⟨(h.maps x c).1,(h.maps x c).2.kept d k40_⟩⟩
theorem OwnL.grow {w w':World} {base:Nat} {v m:Value} {k e:List (Value × Nat × Line)} (h:OwnL w base v k) (f:w.grownBy w' v.ownBlock) (o:w'.ownsRow base 135 5 m e.length (flatL e))
  (g:∀ x∈e,x∈k∨(w.ownsRow base 3 1 x.1 x.2.2.left.length (ints x.2.2.left)∧base≤x.2.1∧MapAt w x.2.1 64 x.2.2.by_)):OwnL w' base m e:=by
 have j:∀ x∈e,w.ownsRow base 3 1 x.1 x.2.2.left.length (ints x.2.2.left):=fun x d=>(g x d).elim (fun c=>h.rows x c) fun c=>c.1;have c:∀ x∈e,base≤x.2.1∧MapAt w x.2.1 64 x.2.2.by_:=fun x d=>(g x d).elim (fun c=>h.maps x c) fun c=>c.2;exact ⟨o,fun x d=>(j x d).kept f (Zv8 (j x d) h.own q41_),fun x d=>⟨(c x d).1,(c x d).2.kept f ((c x d).2.not_row h.own)⟩⟩
theorem OwnL.lines {w:World} {base:Nat} {v:Value} {c:List (Value × Nat × Line)} (h:OwnL w base v c):Yh2 w w.heap.size v (c.map fun x=>x.2.2):=by
 have hc:=h.own;rcases hc.2 with ⟨rfl,q⟩ | ⟨g,p,z,rfl,hb,A,r,s,_⟩
 ·have:c=[]:=List.eq_nil_of_length_eq_zero q
  subst this;exact j10_
 ·refine ⟨_,p,by rw [List.length_map],⟨by rw [List.length_map];exact r,s,fun e=>by cases e⟩,fun k hk=>?_⟩
  have o:k<c.length:=by simpa using hk
  have m:c[k]∈c:=List.getElem_mem o;have cell:∀ i u,i<5→(V8_ c[k].1 c[k].2.1 c[k].2.2)[i]?=some u→w.cell? (Addr.add ⟨g,0,none⟩ (k * 5+i))=some u:=fun i u d y =>
   World.ownsRow.cells hc (g:=g) rfl _ _ ((Yr2 c k i o d).trans y)
  have f:∀ i,(⟨((⟨g,0,none⟩:Addr).add (k * 5)).block,((⟨g,0,none⟩:Addr).add (k * 5)).off+i,none⟩:Addr)=(⟨g,0,none⟩:Addr).add (k * 5+i):=by
   intro i;unfold Addr.add;by_cases j:k * 5=0
   ·by_cases d:i=0
    ·simp [j,d]
    ·simp [j,d]
   ·simp [j]
  refine ⟨_,c[k].1,c[k].2.1,rfl,(World.ownsRow.lt hc g rfl).2,?_,?_,(h.maps _ m).2.lt,?_⟩
  ·simp only [List.getElem_map]
   refine ⟨cell 0 _ y40_ rfl,?_,?_,?_,?_⟩
   ·rw [f];exact cell 1 _ y40_ rfl
   ·rw [f];exact cell 2 _ y40_ rfl
   ·rw [f];exact cell 3 _ y40_ rfl
   ·rw [f];exact cell 4 _ y40_ rfl
  ·simp only [List.getElem_map]
   exact Row.of_own (h.rows _ m) rfl
  ·simp only [List.getElem_map]
   exact (h.maps _ m).2
theorem clone_any (v:Value) (zs:List Int) (w:World) (k:Row w w.heap.size v zs) (hl:zs.length≤1048576) :
  Calls Tryz.prog 102 #[v] w fun e w'=>∃ u,e=.returned u∧w'.ownsRow w.heap.size 3 1 u zs.length (ints zs)∧Below w.heap.size w w':=by
 have m:=hid k;obtain ⟨A,c,rfl,h,g⟩:=k;rcases A with _ | D
 ·have z:zs=[]:=by
   cases zs with
   | nil=>rfl
   | cons y r =>
    obtain ⟨_,o,_⟩:=g 0 k40_;cases o
  subst z;obtain rfl:=h.2.2 rfl;clear g h;have B:∀ (w:World) (a:Option Addr) (n c d c':Nat),(binOp .eql 28 (.slice a n c) (.slice none d c')).run Tryz.prog w=.ok (.bool a.isNone) w:=fun w a n c d c'=>Lib.run_eql_slice_nil w _ _ a n c d c' Tryz.underlying28
  go_enter Tryz.func102,Tryz.ntmps102
  go_wp2;go_ret;exact ⟨_,rfl,World.ownsRow_nil _ _ _ _,Below.refl _ _⟩
 ·have j:Hid ((w.alloc (.cells #[] 3)).ownsRow w.heap.size 3 1 (.slice (some ⟨w.heap.size,0,none⟩) 0 0) ([]:List Int).length (ints [])) :=
   World.ownsRow_lit w #[] 0 (le_refl _) z41_ rfl
  have E:(zs.length:Int)≤1048576:=y40_;clear g h;have B:∀ (w:World) (a:Option Addr) (n c d c':Nat),(binOp .eql 28 (.slice a n c) (.slice none d c')).run Tryz.prog w=.ok (.bool a.isNone) w:=fun w a n c d c'=>Lib.run_eql_slice_nil w _ _ a n c d c' Tryz.underlying28
  go_enter Tryz.func102,Tryz.ntmps102
  go_wp2_with (at_builtin;refine Z5_ rfl _ _ rfl w.heap.size _ _ _ [] zs rfl rfl j.out (m.out.upA _) k40_ y40_ k40_ ?_)
  intro F C x q;have p:Below w.heap.size w C:=((Below.refl _ w).alloc (le_refl _) _).grown q k40_ (fun i s=>(j.out.lt i s).1);go_wp2;go_ret;exact ⟨_,rfl,x,p⟩
theorem isMap_of {w:World} {b n:Nat} {D:DataW Unit} (h:w.ownsMap Tryz.prog 3 (plainElem Tryz.prog 3) b n D):Maps.IsMap D:=by
 obtain ⟨_,_,_,_,_,c⟩:=h;exact ⟨_,c⟩
def Takes (w:World) (left:List Int) (f:Nat→Int) (e:Ending) (w':World):Prop :=
 ∃ u b,e=.returned (.tuple #[u,.map (some b)])∧w'.ownsRow w.heap.size 3 1 u left.length (ints left)∧w.heap.size≤b∧MapAt w' b 64 f∧Below w.heap.size w w'
theorem U8_ {zs:List Int} {j:Nat} (h:j<zs.length):(ints zs)[j]?=some (.int .i64 (zs.getD j 0)):=by
 simp [ints,List.getD,h]
theorem Vx5 (zs:List Int) (j:Nat) (x:Int):(ints zs).set j (.int .i64 x)=ints (zs.set j x):=by
 unfold ints;rw [List.map_set]
theorem Vx6 (p:Int) (R:Nat) (v vc:Value) (j:List Line) (col:List Int) (w:World) (zi:2≤p) (x8:p≤2147483647) (y5:Yh2 w w.heap.size v j) (hE:Ech p R j) (y4:Row w w.heap.size vc col) (hc:InR p R col) (hR:R≤64) (hn:j.length≤64) (ye:∀ l∈j,l.place<64) :
  Calls Tryz.prog 138 #[.int .i64 p,v,vc] w (Takes w (takeT p j col).1 (takeT p j col).2):=by
 have z9:=hid y5;have T:=hid hE;have Hc:=hid hc;have yr:=hid ye;have xr:=hid (fun a w=>Zp4 a p w ⟨y40_,x8⟩);obtain ⟨A,c,rfl,_,y3⟩:=y5;have Hcells:=hid y3;have zh:(j.length:Int)≤64:=y40_;clear y3;have z3:=@run_makeMap Tryz.prog
 go_enter Tryz.func138,Tryz.ntmps138
 go_wp2_with fail
 refine (clone_any vc col w y4 (by rw [hc.1];omega)).mono ?_;rintro e S ⟨u,rfl,yc,xz⟩;have yq:=hid yc;have xb:=hid xz;clear y4 hE hc yc xz ye;obtain ⟨o,Q⟩:∃ o,o=S.heap.size:=⟨_,rfl⟩;have xn:Hid (MapAt (S.alloc (.map #[] 0)) o 0 (fun _=>0)):=by
  show MapAt _ _ _ _;rw [Q];exact ⟨_,World.ownsMap_made S Tryz.prog 3 _,Yh1⟩
 have xs:Hid ((S.alloc (.map #[] 0)).ownsRow w.heap.size 3 1 u R (ints col)):=by
  show World.ownsRow _ _ _ _ _ _ _;rw [← Hc.out.1];exact yq.out.alloc _
 have xq:Hid (w.heap.size≤o):=by
  show _≤_;rw [Q];exact xb.out.size
 have xj:Hid (Below w.heap.size w (S.alloc (.map #[] 0))):=xb.out.alloc xb.out.size _;go_wp2;rw [← Q];have za:=hid Q;clear Q z3
 go_loopw [19] (fun vk wr=>∃ k:Nat,vk=.int .i64 k∧k≤j.length∧wr.ownsRow w.heap.size 3 1 u R (ints (takeN p j col k).1)∧MapAt wr o k (takeN p j col k).2∧Below w.heap.size w wr) (fun vk _=>j.length - (intOf vk).toNat)
 case atStart=>exact ⟨0,rfl,Nat.zero_le _,xs.out,xn.out,xj.out⟩
 case round =>
  obtain ⟨k,rfl,hk,yb,y6,y0⟩:=hrel;clear xs xn xj;have B:=hid y0;have N:=hid y6;have F:=hid yb;clear y0 y6 yb;by_cases x7:k<j.length
  ·obtain ⟨ad,u',G,hA,hab,⟨q0,q1,q2,q3,q4⟩,yi,zb,z2⟩:=Hcells.out k x7
   subst hA;have M:=(Zd5 y40_ T.out Hc.out (k:=k)).row;have ya:=Vg8 T.out _ (List.getElem_mem x7);have yj:=Xv0 (p:=p) (col:=col) x7;generalize hs:takeN p j col k=s at *
   have z6:=yr.out _ (List.getElem_mem x7);generalize hl:j[k]=l at *
   have xv:=hid yj;have x1:=hid ya;have H:=hid M;have yt:=hid yi;clear yj ya M yi hs hl z2 Hcells T;obtain ⟨lf,f⟩:=s;obtain ⟨m,L,d,h,O⟩:=l;simp only at q0 q1 q2 q3 q4 z6;have xg:d<R:=x1.out.lt;have K:=H.out.get y40_ d;have P:=x1.out.invr;have x6:=x1.out.row.1;obtain ⟨E,c',yk,_,yg⟩:=yt.out;have ys:=hid yg;simp only at x6;rw [x6] at yk;subst yk;have ym:=hid x6;clear yg x6;simp only at K P;obtain ⟨g,cu,rfl,z0⟩:=K9_ F.out y40_;have x4:wr.cell? ⟨g,d,none⟩=some (.int .i64 (lf.getD d 0)):=by
    rw [F.out.cellAt d y40_,U8_ (by rw [H.out.1];exact xg)]
   obtain ⟨x,x9⟩:∃ x,x=lf.getD d 0:=⟨_,rfl⟩;rw [← x9] at x4 K;have z4:=Zd4 x8 K.1 K.2 P.1 P.2;have zg:=Yv4 x8 K.1 K.2 P.1 P.2;have e0:=(B.out.cell (p:=ad.add (k * 5)) x42_).trans q0;have e1:=(B.out.cell (p:=⟨(ad.add (k * 5)).block,(ad.add (k * 5)).off+1,none⟩) z45_).trans q1;have e2:=(B.out.cell (p:=⟨(ad.add (k * 5)).block,(ad.add (k * 5)).off+2,none⟩) z45_).trans q2;have e3:=(B.out.cell (p:=⟨(ad.add (k * 5)).block,(ad.add (k * 5)).off+3,none⟩) z45_).trans q3;have e4:=(B.out.cell (p:=⟨(ad.add (k * 5)).block,(ad.add (k * 5)).off+4,none⟩) z45_).trans q4;clear q0 q1 q2 q3 q4;have Z:=hid (Blk.new wr 135 #[.int .i64 (m:Int),.slice E R c',.int .i64 (d:Int),.int .i64 h,.map (some G)]);have xe:=hid (F.out.alloc (.cells #[.int .i64 (m:Int),.slice E R c',.int .i64 (d:Int),.int .i64 h,.map (some G)] 135));have xp:=hid (N.out.kept (World.grownBy_alloc wr (.cells #[.int .i64 (m:Int),.slice E R c',.int .i64 (d:Int),.int .i64 h,.map (some G)] 135) none) k40_);have xl:=hid (B.out.alloc B.out.size (.cells #[.int .i64 (m:Int),.slice E R c',.int .i64 (d:Int),.int .i64 h,.map (some G)] 135));have xm:Hid (g≠wr.heap.size∧o≠wr.heap.size∧w.heap.size≤wr.heap.size):=by
    have h1:=(F.out.lt g rfl).2;have h2:=N.out.lt;exact ⟨y40_,y40_,B.out.size⟩
   clear x4;obtain ⟨t,ht⟩:∃ t,t=x * h % p:=⟨_,rfl⟩;have xh:=em_lt (a:=x * h) (p:=p) y40_;have Ht:=hid (fun w=>xr.out (x * h) w);rw [← ht] at xh Ht;have xw:Hid ((lf.getD d 0 * h) % p=t):=by
    show _=_;rw [← x9,ht]
   have zo:IntKind.i64.wrap (x * h)=x * h:=by
    rw [IntKind.wrap_i64];omega
   have yw:=hid x9;clear ht x9 z4 F N;go_wp2;generalize wr.alloc (.cells #[.int .i64 (m:Int),.slice E R c',.int .i64 (d:Int),.int .i64 h,.map (some G)] 135)=W at *
   have x4:W.cell? ⟨g,d,none⟩=some (.int .i64 x):=by
    rw [xe.out.cellAt d y40_,U8_ (by rw [H.out.1];exact xg),← yw.out]
   generalize wr.heap.size=bx at *
   have C:=Z.out.cell 2;have d3:=Z.out.cell 3;simp only [List.getElem?_toArray,List.getElem?_cons_zero,List.getElem?_cons_succ] at C d3;have zf:(d:Int)<(R:Int):=y40_
   go_quiet ((go_at_call 163;exact Calls.quiet_of_same (Ht.out _)))
   have x2:Hid ((W.drewN nq).ownsRow w.heap.size 3 1 (.slice (some ⟨g,0,none⟩) R cu) R (ints lf)):=xe;have Y:Hid (MapAt (W.drewN nq) o k f):=xp;have V:Hid (Below w.heap.size w (W.drewN nq)):=hid (Y2_ xl.out nq);have x0:Hid (Blk (W.drewN nq) bx 135 #[.int .i64 (m:Int),.slice E R c',.int .i64 (d:Int),.int .i64 h,.map (some G)]):=Z;clear x4 C d3 xe xp xl Z;generalize W.drewN nq=W2 at *
   by_cases h0:t=0
   ·subst h0
    have J:=hid (xv.out.trans (Xv1 xw.out));go_wp2
    go_roundw
    case rel =>
     refine ⟨k+1,j41_,y40_,?_,?_,V.out⟩
     ·rw [J.out];exact x2.out
     ·rw [J.out];exact Y.out.mono (Nat.le_succ k)
    case measure=>simp [intOf];omega
   ·have zl:(t==0)=false:=by rw [beq_eq_false_iff_ne];exact h0
    have d0:=x0.out.cell 0;simp only [List.getElem?_toArray,List.getElem?_cons_zero] at d0;have C:=x0.out.cell 2;simp only [List.getElem?_toArray,List.getElem?_cons_zero,List.getElem?_cons_succ] at C;obtain ⟨D,xx,xy⟩:=Y.out;have xa:=hid xx;have xi:=hid xy;have yo:=hid (Y.out.not_row x2.out);have yv:=hid (WalkArith.wf_i64 (n:=(m:Int)) y40_);have yu:=hid (WalkArith.wf_i64 (n:=t) y40_);have D2:=hid C;clear xx xy C
    go_wp2_with (at_mapUpdate;refine wpList_mapUpdate_own _ rfl _ _ _ 126 rfl 3 3 Vo7 Tryz.underlying126 _ o k _ rfl xa.out z41_ _ _ _ rfl rfl (Maps.keyOf_int_mk Tryz.underlying3 yv.out) _ [] (plainElem_int Tryz.underlying3 yu.out) ?_)
    intro w3 y7 x5;have xo:Hid (MapAt w3 o (k+1) (upd f m t)):=⟨_,y7,Xh4 (isMap_of xa.out) xi.out m h0 trivial⟩;have xt:=hid (x2.out.kept x5 (.inr (fun e=>yo.out e.symm)));have xc:=hid (x0.out.grown x5 (by have:=xm.out.2.1;intro e;injection e with e;omega));have xk:=hid (V.out.grown x5 V.out.size (fun i hi=>by injection hi with hi;rw [← hi];exact xq.out));have C:=xc.out.cell 2;simp only [List.getElem?_toArray,List.getElem?_cons_zero,List.getElem?_cons_succ] at C;clear y7 x5 x2 Y x0 V xa xi D2 d0;have J:=hid (xv.out.trans (Xv2 xw.out h0));simp only at J;have xu:Hid (w3.ownsRow w.heap.size 3 1 (.slice (some ⟨g,0,none⟩) R cu) R (ints (subU p lf ⟨m,L,d,h,O⟩ t d))):=by
     show World.ownsRow _ _ _ _ _ _ _;rw [show subU p lf ⟨m,L,d,h,O⟩ t d=lf from Xx9 (l:=⟨m,L,d,h,O⟩)];exact xt.out
    clear xt;go_wp2
    go_loopw [13] (fun vr wq=>∃ r:Nat,vr=.int .i64 r∧d≤r∧r≤R∧wq.ownsRow w.heap.size 3 1 (.slice (some ⟨g,0,none⟩) R cu) R (ints (subU p lf ⟨m,L,d,h,O⟩ t r))∧MapAt wq o (k+1) (upd f m t) ∧
     Blk wq bx 135 #[.int .i64 (m:Int),.slice E R c',.int .i64 (d:Int),.int .i64 h,.map (some G)]∧Below w.heap.size w wq) (fun vr _=>R - (intOf vr).toNat)
    case atStart=>exact ⟨d,rfl,le_refl _,Nat.le_of_lt xg,xu.out,xo.out,xc.out,xk.out⟩
    case round =>
     clear xu xo xc xk C;obtain ⟨r,rfl,z7,zj,yd,y8,y9,y1⟩:=hrel;have I:=hid yd;have X:=hid y8;have xd:=hid y9;have U:=hid y1;clear yd y8 y9 y1;by_cases yf:r<R
     ·have yh:r<lf.length:=by rw [H.out.1];exact yf
      obtain ⟨yx,yy,yz,y2⟩:=ys.out r (by rw [ym.out];exact yf);subst yy;have zd:=(U.out.cell (p:=yx.add r) (by rw [Z2_];exact yz)).trans y2;have zc:wr.cell? ⟨g,r,none⟩=some (.int .i64 (lf.getD r 0)):=by
       rw [I.out.cellAt r y40_,U8_ (by rw [Q6_];exact yh),Vo6 yh]
      have ze:wr.frozen? ⟨g,r,none⟩=false:=I.out.frozenAt r;have hy:=H.out.get y40_ r;have hz:=x1.out.row.get y40_ r;simp only at hz;have xf:=hid (Xh5 (p:=p) (left:=lf) (l:=⟨m,L,d,h,O⟩) (t:=t) (r:=r) z7);simp only at xf;generalize lf.getD r 0=y at *
      generalize L.getD r 0=z at *
      have z5:=Yv4 x8 xh.1 xh.2 hz.1 hz.2;have zm:IntKind.i64.wrap (t * z)=t * z:=y41_;have zn:IntKind.i64.wrap (y - t * z)=y - t * z:=y41_;have Hq:=hid (fun w=>xr.out (y - t * z) w);generalize (y - t * z) % p=q at *
      have d1:=xd.out.cell 1;simp only [List.getElem?_toArray,List.getElem?_cons_zero,List.getElem?_cons_succ] at d1;have zk:(r:Int)<(R:Int):=y40_;have x3:=hid (I.out.stored r (.int .i64 q));have yn:=hid (X.out.kept x3.out.2 (by have:=X.out.not_row I.out;exact this));have yp:=hid (xd.out.grown x3.out.2 (by have:=xm.out.1;intro e;injection e with e;omega));have yl:=hid (U.out.setCell (p:=⟨g,r,none⟩) z0 (.int .i64 q));rw [Vx5,xf.out] at x3;clear X xd U I xf y2 z5;go_wp2;refine wp_region_still_tail 17 z40_ z40_ ?_;simp only [List.take_succ_cons,List.take_zero,List.drop_succ_cons,List.drop_zero]
      repeat still_step
      still_call (Hq.out _)
      repeat still_step
      try refine wpStill_nil ?_
      change wpList _ _ _ _ _ wr.drew;go_wp2
      go_roundw
      case rel=>exact ⟨r+1,j41_,y40_,y40_,x3.out.1,yn.out,yp.out,yl.out.drew⟩
      exact mz_
     ·have z8:r=R:=by omega
      subst z8;go_wp2
      go_roundw
      case rel =>
       refine ⟨k+1,j41_,y40_,?_,?_,U.out⟩
       ·rw [J.out,H.out.1];exact I.out
       ·rw [J.out];exact X.out
      case measure=>simp [intOf];omega
  ·have z1:k=j.length:=by omega
   subst z1;have M:=hid (Zd5 y40_ T.out Hc.out (k:=j.length)).row;rw [Xh6] at F N M;go_wp2
   go_ret2
   refine ⟨u,o,rfl,?_,xq.out,N.out.mono hn,B.out⟩;rw [M.out.1];exact F.out
theorem Yv5 (x:Int) (W:World):Calls Tryz.prog 164 #[.int .i64 x] W fun e c=>e=.returned (.bool (decide (x≠0)))∧c=W:=by
 by_cases h:x=0
 ·subst h
  exact x37_
 ·rw [decide_eq_true h]
  have d:(x != 0)=true:=by simp [h]
  exact x37_
theorem Vx7 (w:World):Tests w 164 #[] fun x=>decide (x≠0):=fun x W _=>(Yv5 x W).mono fun e d ⟨c,h2⟩=>⟨c,by rw [h2];exact Below.refl _ _⟩
theorem Zr5 {zs:List Int} {r:Int} (h:Found (fun x=>decide (x≠0)) 0 zs r):r=leadI zs:=by
 rcases h with ⟨rfl,h⟩ | ⟨i,d,rfl,h1,h2⟩
 ·exact (Zy6 fun j c=>by simpa using h j c).symm
 ·exact (Yx4 d z50_ fun j c=>by simpa using h2 j c).symm
theorem Vx8 (v:Value) (zs:List Int) (w:World) (g:Row w w.heap.size v zs) (hl:zs.length≤1048576) :
  Calls Tryz.prog 139 #[v] w fun e w'=>e=.returned (.int .i64 (leadI zs))∧Below w.heap.size w w':=by
 have h:=hid (Yv3 164 #[] _ v zs w (enters_of Tryz.func164 z40_ rfl) g hl (Vx7 w));obtain ⟨A,c,rfl,_⟩:=g
 go_enter Tryz.func139,Tryz.ntmps139
 go_wp2_with fail
 refine (h.out).mono ?_;rintro e k ⟨r,rfl,d,hb⟩;have j:=hid (Zr5 d);clear d;go_wp2;go_ret;exact ⟨by rw [← j.out];rfl,hb⟩
def wrongB (p x:Int):Bool:=decide (x<0∨p≤x)
def badRow (p rows:Int) (col:List Int):Bool:=decide ((col.length:Int)≠rows) || col.any (wrongB p)
def elimB (p rows:Int) (cols:List (List Int)):Bool:=prB p && decide (0≤rows∧rows≤64) && decide (cols.length≤64) && !cols.any (badRow p rows)
theorem wrong_any (p x:Int) (B:Nat) (W:World) (hc:W.cell? ⟨B,0,none⟩=some (.int .i64 p)) :
  Calls Tryz.prog 134 #[.int .i64 x,.pointer (some ⟨B,0,none⟩)] W fun e c=>e=.returned (.bool (wrongB p x))∧Below W.heap.size W c:=by
 unfold wrongB;by_cases h1:x<0
 ·exact j35_
 ·exact k5_
theorem wrongtest (p:Int) (B:Nat) (w:World) (c:B<w.heap.size) (hc:w.cell? ⟨B,0,none⟩=some (.int .i64 p)):Tests w 134 #[.pointer (some ⟨B,0,none⟩)] (wrongB p) :=
 fun x W d=>wrong_any p x B W ((d.cell (p:=⟨B,0,none⟩) c).trans hc)
theorem badrow_any (p rows:Int) (bp d g:Nat) (v:Value) (zs:List Int) (w:World) (hbp:bp<w.heap.size) (hp:w.cell? ⟨bp,0,none⟩=some (.int .i64 p)) (j:w.cell? ⟨d,0,none⟩=some (.int .i64 rows))
  (k:w.cell? ⟨g,0,none⟩=some (.func (.func 134) #[] #[.pointer (some ⟨bp,0,none⟩)])) (hr:Row w w.heap.size v zs) (h:rows≤64) :
  Calls Tryz.prog 136 #[v,.pointer (some ⟨d,0,none⟩),.pointer (some ⟨g,0,none⟩)] w fun e w'=>e=.returned (.bool (badRow p rows zs))∧Below w.heap.size w w':=by
 unfold badRow;by_cases hl:(zs.length:Int)=rows
 ·exact x4_
 ·exact y33_
theorem badtest (p rows:Int) (bp c d:Nat) (w:World) (g:bp<w.heap.size) (j:c<w.heap.size) (k:d<w.heap.size) (m:w.cell? ⟨bp,0,none⟩=some (.int .i64 p)) (o:w.cell? ⟨c,0,none⟩=some (.int .i64 rows))
  (r:w.cell? ⟨d,0,none⟩=some (.func (.func 134) #[] #[.pointer (some ⟨bp,0,none⟩)])) (h:rows≤64) :
  Yv2 w 136 #[.pointer (some ⟨c,0,none⟩),.pointer (some ⟨d,0,none⟩)] (badRow p rows) :=
 fun u zs W e q=>badrow_any p rows bp c d u zs W (Nat.lt_of_lt_of_le g e.size) ((e.cell (p:=⟨bp,0,none⟩) g).trans m) ((e.cell (p:=⟨c,0,none⟩) j).trans o) ((e.cell (p:=⟨d,0,none⟩) k).trans r) q h
theorem prime_is (p:Int) (b:Bool) (h:prB p=b) (w:World) (hM:Met w):Calls Tryz.prog 133 #[.int .i64 p] w (Gets w (.bool b)):=by
 subst h;exact T8_ p w hM
theorem below_two (w:World) (c d:Obj):Below w.heap.size w ((w.alloc c).alloc d):=((Below.refl _ w).alloc (le_refl _) _).alloc k40_ _
theorem may_any (p rows:Int) (v:Value) (cols:List (List Int)) (w:World) (hM:Met w) (k:Rows2 w w.heap.size v cols) :
  Calls Tryz.prog 105 #[.int .i64 p,.int .i64 rows,v] w (Says w (elimB p rows cols)):=by
 have q:=hid k;have HM:=hid hM;obtain ⟨A,c,rfl,hn,_⟩:=k;have x:(cols.length:Int)≤9223372036854775807:=x45_;have Hb0:=hid (below_two w (.cells #[.int .i64 p] 3) (.cells #[.int .i64 rows] 3));clear hn hM;unfold elimB;rcases hp:prB p with _ | _
 ·simp only [Bool.false_and]
  have HP:=hid hp;clear hp
  go_enter Tryz.func105,Tryz.ntmps105
  go_wp2_with fail
  refine (prime_is p false HP.out _ (HM.out.up Hb0.out)).mono ?_;exact q39_
 ·simp only [Bool.true_and]
  have HP:=hid hp;clear hp;by_cases r:rows<0
  ·exact z39_
  ·have s:0≤rows:=by omega
   clear r;by_cases h2:64<rows
   ·exact z39_
   ·have g:rows≤64:=by omega
    rw [decide_eq_true (show 0≤rows∧rows≤64 from ⟨s,g⟩),Bool.true_and];clear h2;by_cases h3:cols.length≤64
    ·rw [decide_eq_true h3,Bool.true_and]
     have u:(cols.length:Int)≤64:=y40_;generalize j:cols.any (badRow p rows)=cb;have o:=hid j;have m:=hid h3;clear j h3
     go_enter Tryz.func105,Tryz.ntmps105
     go_wp2_with fail
     refine (prime_is p true HP.out _ (HM.out.up Hb0.out)).mono ?_;rintro e w1 ⟨rfl,hb1⟩;have c0:w1.cell? ⟨w.heap.size,0,none⟩=some (.int .i64 p):=(hb1.cell (p:=⟨w.heap.size,0,none⟩) x41_).trans (by simp [go_sem]);have c1:w1.cell? ⟨w.heap.size+1,0,none⟩=some (.int .i64 rows):=(hb1.cell (p:=⟨w.heap.size+1,0,none⟩) k40_).trans (by simp [go_sem]);have Hb1:=hid (Z0_ Hb0.out (le_refl _) hb1);have Hs1:Hid (w.heap.size+1<w1.heap.size):=k7_;clear hb1;have d:Hid (Below w.heap.size w (w1.alloc (.cells #[.func (.func 134) #[] #[.pointer (some ⟨w.heap.size,0,none⟩)]] 57))):=Hb1.out.alloc Hb1.out.size _
     go_wp2_with fail
     refine (L8_ 136 _ (badRow p rows) _ cols _ (enters_of Tryz.func136 z40_ rfl) (q.out.up d.out) (by have:=m.out;omega) (badtest p rows w.heap.size (w.heap.size+1) w1.heap.size _ j49_ j49_ k40_ ?_ ?_ ?_ g)).mono ?_
     ·exact q22_
     ·exact k29_
     ·exact (Blk.new w1 _ _).cell 0
     rintro e y ⟨rfl,h⟩;rw [o.out];have Hb2:=hid (Z0_ d.out (le_refl _) h);clear h;exact j2_
    ·rw [decide_eq_false h3,Bool.false_and]
     have u:64<(cols.length:Int):=y40_;clear h3;exact k30_
theorem Yr3 {p:Int} (h:prB p=true):∀ x,0<x→x<p→p ∣ x * invI x p - 1∧0≤invI x p∧invI x p<p:=by
 intro x j k;obtain ⟨h2,hM,c⟩:=prB_iff.1 h;obtain ⟨P,rfl⟩:∃ P:Nat,p=P:=⟨p.toNat,y40_⟩;obtain ⟨X,rfl⟩:∃ X:Nat,x=X:=⟨x.toNat,y40_⟩;rw [Int.toNat_natCast] at c;have g:(X:Int) % (P:Int)=X:=Int.emod_eq_of_lt y40_ y40_;obtain ⟨_,e⟩:=Jz8 h y40_ y40_ g y40_;rw [e];have m:X ^ (P - 2) % P<P:=Nat.mod_lt _ y40_;have d:=Vn0 c (Vn1 (x:=X) y40_ y40_);refine ⟨?_,y40_,y40_⟩;generalize X ^ (P - 2) % P=y at *
 have f:((y * X:Nat):Int) % (P:Int)=1:=by
  rw [← Int.natCast_emod,d];rfl
 rw [Int.mul_comm];have:=B3_ (p:=(P:Int)) ((y * X:Nat):Int);rw [f] at this;simpa using this
theorem fld_ok {p:Int} (h:prB p=true):Fld p:=by
 intro c hc;obtain ⟨h2,_,_⟩:=prB_iff.1 h;have hb:=em_lt (a:=c) (p:=p) y40_;have g:c % p≠0:=fun e=>hc (Int.dvd_of_emod_eq_zero e);obtain ⟨h3,_⟩:=Yr3 h (c % p) y40_ hb.2;refine ⟨invI (c % p) p,?_⟩;have d:=Int.dvd_trans (B3_ (p:=p) c) (Int.dvd_mul_right _ (invI (c % p) p));have f:=Int.dvd_add h3 d
 rwa [show c % p * invI (c % p) p - 1+(c - c % p) * invI (c % p) p=c * invI (c % p) p - 1 by rw [Int.sub_mul];omega] at f
theorem Jy8 (a p i:Int) (b:Bool) (c:invI a p=i) (h2:invB a p=b) (w:World) (hM:Met w):Calls Tryz.prog 140 #[.int .i64 a,.int .i64 p] w (Gets w (.tuple #[.int .i64 i,.bool b])):=by
 subst c h2;exact Vm9 a p w hM
theorem Vx9:(Tryz.prog.info? 135).map (fun i=>(i.zero,i.size,i.bytes))=some (some (.agg #[.int .i64 0,.slice none 0 0,.int .i64 0,.int .i64 0,.map none]),5,56):=z40_
theorem U9_ {w:World} {ops:Array Oper} {rest:List Oper} {o:Oper} {a:Act} {Q:Exit→Act→World→Prop} (r:o.guard=none) (s x:Operand)
  (D:o.op=.call { callee:=.builtin .append,args:=#[s,x],argTypes:=#[114, 114] })
  (base:Nat) (v:Value) (d:List (Value × Nat × Line)) (u:Value) (b:Nat) (l:Line) (hs:a.eval s=v) (m:OwnL w base v d) (g:Nat) (c:a.eval x=.slice (some ⟨g,0,none⟩) 1 1) (hc:Blk w g 135 (V8_ u b l).toArray) (F:u.oneCell'=true)
  (E:w.ownsRow base 3 1 u l.left.length (ints l.left)) (C:base≤b∧MapAt w b 64 l.by_) (K:d.length≤64) (hb:base≤w.heap.size)
  (h:∀ e w',OwnL w' base e (d ++ [(u,b,l)])→w.grownBy w' v.ownBlock→wpList Tryz.prog ops Q rest (a.put o.dst e) w'):wpList Tryz.prog ops Q (o :: rest) a w:=by
 obtain ⟨J,z,G,H,I⟩:=info_parts Vx9;refine wpList_append_own_at w r s x _ D base 135 J (.agg #[.int .i64 0,.slice none 0 0,.int .i64 0,.int .i64 0,.map none]) 5 56 z40_ z G H I rfl q41_ v d.length (flatL d) hs m.own ⟨g,0,none⟩ 1 1 (V8_ u b l) c (by simp [V8_]) ?_ ?_ ?_ ?_ hb ?_
 ·intro j y B
  have f:=hc.cell j;rw [show (V8_ u b l).toArray[j]?=some y by simpa using B] at f;unfold Addr.add;by_cases k:j=0
  ·subst k
   simpa using f
  ·simpa [k] using f
 ·intro y p
  simp only [V8_,List.mem_cons,List.not_mem_nil,or_false] at p;rcases p with rfl | rfl | rfl | rfl | rfl
  ·rfl
  ·exact F
  ·rfl
  ·rfl
  ·rfl
 ·unfold maxLen;omega
 ·have:(d.length+1) * 56≤65 * 56:=Nat.mul_le_mul y40_ (le_refl _)
  omega
 ·intro e w' q h2 _ _
  refine h e w' (m.grow h2 ?_ fun x c=>?_) h2
  ·rw [Zj5,List.length_append]
   simpa [flatL] using q
  ·rcases List.mem_append.1 c with c | c
   ·exact .inl c
   ·obtain rfl:=List.mem_singleton.1 c
    exact .inr ⟨E,C⟩
theorem Vh3 {w:World} {base c:Nat} {e:TypeId} {size:Nat} {v:Value} {n:Nat} {d:List Value} (h:w.ownsRow base e size v n d) (hb:c≤base):w.ownsRow c e size v n d:=by
 obtain ⟨o,h2⟩:=h;refine ⟨o,?_⟩;rcases h2 with h2 | ⟨g,k,m,f,p,j⟩
 ·exact .inl h2
 ·exact .inr ⟨g,k,m,f,y40_,j⟩
def Vh4 (w:World) (ls:List Line) (e:Ending) (w':World):Prop:=∃ v,e=.returned v∧Yh2 w' w'.heap.size v ls∧Below w.heap.size w w'
theorem Vv0 (p:Int) (R:Nat) (v:Value) (cols:List (List Int)) (w:World) (hM:Met w) (W:prB p=true) (hr:Rows2 w w.heap.size v cols) (hc:Zc7 p R cols) (hR:R≤64) (hn:cols.length≤64) :
  Calls Tryz.prog 106 #[.int .i64 p,v] w (Vh4 w (R6_ p (fun x=>invI x p) cols cols.length)):=by
 have Hr:=hid hr;have HM:=hid hM;have Hc:=hid hc;have HP:=hid W;obtain ⟨h2,xx,_⟩:=prB_iff.1 W;obtain ⟨A,c,rfl,_,xb⟩:=hr;have xr:=hid xb;have y8:(cols.length:Int)≤64:=y40_;clear hM hc W xb
 go_enter Tryz.func106,Tryz.ntmps106
 go_wp2
 go_loopw [5,15] (fun vb Y wr=>∃ (k:Nat) (r:List (Value × Nat × Line)),Y=.int .i64 k∧k≤cols.length∧OwnL wr w.heap.size vb r∧r.map (fun x=>x.2.2)=R6_ p (fun x=>invI x p) cols k∧Below w.heap.size w wr) (fun _ Y _=>cols.length - (intOf Y).toNat)
 case atStart=>exact ⟨0,[],rfl,Nat.zero_le _,Vx4 _ _,rfl,Below.refl _ _⟩
 case round =>
  obtain ⟨k,r,rfl,hk,xl,xj,xa⟩:=hrel;have L:=hid xl;have h:=hid xj;have d:=hid xa;clear xl xj xa;by_cases xg:k<cols.length
  ·obtain ⟨ad,u,hA,hab,xc,xn⟩:=xr.out k xg
   subst hA;have y4:=(d.out.cell (p:=ad.add k) x42_).trans xc;have M:=hid ((xn.below d.out).mono d.out.size);have F:=Zc6 y40_ (Yr3 HP.out) (cols:=cols) (k:=k) fun i hi=>Hc.out i y40_;have D:=Hc.out k xg;obtain ⟨cl,E⟩:∃ cl,cl=cols.getD k []:=⟨_,rfl⟩;rw [← E] at D M;have xh:r.length≤64:=by
    have e1:=congrArg List.length h.out;rw [List.length_map] at e1;have e2:=congrArg List.length F.pl;rw [List.length_map] at e2;have e3:=Xg4 (p:=p) (R:=R) (cols:=cols) (k:=k);omega
   have N:=hid (F.take y40_ D);have Hlines:=hid F;have xs:=hid D;have K:Hid (R6_ p (fun x=>invI x p) cols (k+1)=addL p (fun x=>invI x p) (R6_ p (fun x=>invI x p) cols k) k cl):=by
    show _=_;rw [E];rfl
   have y1:=hid E;have HlinesAt:=hid L.out.lines;clear F D E xc xn;rw [h.out] at HlinesAt;obtain ⟨m,U⟩:∃ m,m=R6_ p (fun x=>invI x p) cols k:=⟨_,rfl⟩;rw [← U] at HlinesAt N Hlines K h;have xz:m.length≤64:=by rw [← h.out,List.length_map];exact xh
   have y2:=hid U;clear U
   go_wp2_with fail
   refine (Vx6 p R _ _ m cl _ h2 xx HlinesAt.out Hlines.out.ech M.out xs.out hR xz (fun l hl=>Nat.lt_of_lt_of_le (Hlines.out.lt hl) y40_)).mono ?_;rintro e w1 ⟨H,C,rfl,G,y3,V,Q⟩;generalize hT:takeT p m cl=T at *
   obtain ⟨lf,f⟩:=T;simp only at G V;have P:=N.out.row;simp only at P;have x0:=hid P;have HT:=hid hT;have x7:=hid G;have x4:=hid V;have xp:=hid Q;have HownL1:=hid (L.out.kept (Z7_ Q none));have x9:=hid (Row.of_own G rfl);clear G V Q P hT N HlinesAt M
   go_wp2_with fail
   refine (Vx8 H lf w1 x9.out (by rw [x0.out.1];omega)).mono ?_;rintro e w2 ⟨rfl,o⟩;have y0:=hid o;have I:=hid (Z0_ (Z0_ d.out (le_refl _) xp.out) (le_refl _) o);have HownL2:=hid (HownL1.out.kept (Z7_ o none));have xi:H.ownBlock=none∨H.ownBlock≠none:=by
    rcases H.ownBlock with _ | q
    ·exact .inl rfl
    ·exact .inr k40_
   have B:=hid (x7.out.kept (Z7_ o none) xi);have x5:=hid (x4.out.kept (Z7_ o none) k40_);clear o xi x7 x4 HownL1 x9;rcases S4_ lf with ⟨hl,_⟩ | ⟨i,xf,hl,hx,_⟩
   ·rw [hl]
    have z:Hid (R6_ p (fun x=>invI x p) cols (k+1)=m):=by
     show _=_;rw [K.out];unfold addL;rw [HT.out,if_pos (by rw [hl];decide)]
    clear hl;go_wp2
    go_roundw
    case rel=>exact ⟨k+1,r,j41_,y40_,HownL2.out,by rw [z.out];exact h.out,I.out⟩
    exact mz_
   ·rw [hl]
    have y7:i<R:=by rw [← x0.out.1];exact xf
    obtain ⟨g,O,rfl,y5⟩:=K9_ B.out y40_;have xd:w2.cell? ⟨g,i,none⟩=some (.int .i64 (lf.getD i 0)):=by
     rw [B.out.cellAt i y40_,U8_ xf]
    obtain ⟨x,X⟩:∃ x,x=lf.getD i 0:=⟨_,rfl⟩;rw [← X] at xd hx;have y6:(i:Int)<(lf.length:Int):=y40_;have z:Hid (R6_ p (fun x=>invI x p) cols (k+1)=m ++ [⟨k,lf,i,invI x p,f⟩]):=by
     show _=_;rw [K.out];unfold addL;rw [HT.out];simp only;rw [hl,if_neg y40_,Int.toNat_natCast,← X]
    obtain ⟨j,S⟩:∃ j,j=invI x p:=⟨_,rfl⟩;obtain ⟨ok,xk⟩:∃ ok,ok=invB x p:=⟨_,rfl⟩;have x3:=hid (Jy8 x p j ok S.symm xk.symm);rw [← S] at z;have xo:=hid (HM.out.up I.out);clear hl X S xk hx
    go_wp2_with fail
    refine (x3.out w2 xo.out).mono ?_;rintro e Z ⟨rfl,s⟩;have x1:=hid (Z0_ I.out (le_refl _) s);have HownL3:=hid (HownL2.out.kept (Z7_ s none));have x8:=hid (B.out.kept (Z7_ s none) (.inr (by simp [Value.ownBlock])));have x6:=hid (x5.out.kept (Z7_ s none) k40_);clear s B x5 HownL2 x3 xd;have xu:=hid (Blk.new Z 135 (V8_ (.slice (some ⟨g,0,none⟩) lf.length O) C ⟨k,lf,i,j,f⟩).toArray);have y:=hid (World.grownBy_alloc Z (.cells (V8_ (.slice (some ⟨g,0,none⟩) lf.length O) C ⟨k,lf,i,j,f⟩).toArray 135) none);have J:=hid (x1.out.alloc x1.out.size (.cells (V8_ (.slice (some ⟨g,0,none⟩) lf.length O) C ⟨k,lf,i,j,f⟩).toArray 135));have HownL4:=hid (HownL3.out.kept y.out);have xv:=hid (Vh3 (x8.out.kept y.out (.inr (by simp [Value.ownBlock]))) d.out.size);have xt:=hid (x6.out.kept y.out k40_);clear HownL3 x8 x6 y
    go_wp2_with (at_builtin;refine U9_ rfl _ _ rfl w.heap.size _ r _ C ⟨k,lf,i,j,f⟩ rfl HownL4.out Z.heap.size rfl xu.out rfl xv.out ⟨by have:=d.out.size;omega,xt.out⟩ xh J.out.size ?_)
    intro v5 w5 xm xe;have xq:=hid (J.out.grown xe J.out.size (fun i hi=>(HownL4.out.own.lt i hi).1));have xw:=hid xm;clear xm xe;go_wp2
    go_roundw
    case rel =>
     refine ⟨k+1,_,j41_,y40_,xw.out,?_,xq.out⟩;rw [List.map_append,h.out,z.out];rfl
    case measure=>simp [intOf];omega
  ·have xy:k=cols.length:=by omega
   subst xy;have x2:=hid L.out.lines;rw [h.out] at x2;go_wp2;go_ret;exact ⟨_,rfl,x2.out,d.out⟩
theorem Vh5 (p rows:Int) (v:Value) (cols:List (List Int)) (b:Bool) (h:elimB p rows cols=b) (w:World) (hM:Met w) (c:Rows2 w w.heap.size v cols) :
  Calls Tryz.prog 105 #[.int .i64 p,.int .i64 rows,v] w (Says w b):=by
 subst h;exact may_any p rows v cols w hM c
theorem elimB_in {p rows:Int} {cols:List (List Int)} (h:elimB p rows cols=true):prB p=true∧∃ R:Nat,rows=(R:Int)∧R≤64∧cols.length≤64∧Zc7 p R cols:=by
 unfold elimB at h;rw [Bool.and_eq_true,Bool.and_eq_true,Bool.and_eq_true,decide_eq_true_iff,decide_eq_true_iff] at h;obtain ⟨⟨⟨f,h2,h3⟩,g⟩,j⟩:=h;refine ⟨f,rows.toNat,y40_,y40_,g,fun i e=>?_⟩;have k:cols.any (badRow p rows)=false:=by simpa using j
 have c:=List.any_eq_false.1 k cols[i] (List.getElem_mem e);rw [show cols.getD i []=cols[i] by simp [List.getD,e]];unfold badRow at c;rw [Bool.or_eq_true,decide_eq_true_iff,not_or,Classical.not_not] at c;refine ⟨y40_,fun x m=>?_⟩;have d:=List.any_eq_false.1 (by simpa using c.2:cols[i].any (wrongB p)=false) x m;unfold wrongB at d;rw [decide_eq_true_iff] at d;omega
theorem Vv1 {p:Int} {R:Nat} {cols:List (List Int)} (e:prB p=true) (h2:R≤64) (h3:cols.length≤64) (f:Zc7 p R cols):elimB p (R:Int) cols=true:=by
 unfold elimB;rw [e,decide_eq_true (show (0:Int)≤(R:Int)∧(R:Int)≤64 by omega),decide_eq_true h3];simp only [Bool.true_and];rw [Bool.not_eq_true',List.any_eq_false];intro c hc;obtain ⟨i,d,rfl⟩:=List.mem_iff_getElem.1 hc;have:=f i d;rw [show cols.getD i []=cols[i] by simp [List.getD,d]] at this;unfold badRow;rw [Bool.or_eq_true,decide_eq_true_iff,not_or,Classical.not_not];refine ⟨by rw [this.1],?_⟩;rw [Bool.not_eq_true,List.any_eq_false];intro x g;have:=this.2 x g;unfold wrongB;rw [decide_eq_true_iff];omega
def Yv6 (p:Int) (cols:List (List Int)):List Line:=R6_ p (fun x=>invI x p) cols cols.length
def rankI (p rows:Int) (cols:List (List Int)):Int:=if elimB p rows cols then ((Yv6 p cols).length:Int) else -1
theorem linesI_lines {p:Int} {R:Nat} {cols:List (List Int)} (c:prB p=true) (hc:Zc7 p R cols):Lines p R cols cols.length (Yv6 p cols) :=
 Zc6 (by have:=(prB_iff.1 c).1;omega) (Yr3 c) hc
theorem Zr6 {p:Int} {R:Nat} {cols:List (List Int)} (c:prB p=true) (hc:Zc7 p R cols):(Yv6 p cols).length≤cols.length:=by
 have e:=congrArg List.length (linesI_lines c hc).pl;rw [List.length_map] at e;have:=Xg4 (p:=p) (R:=R) (cols:=cols) (k:=cols.length);omega
theorem rank_any (p rows:Int) (v:Value) (cols:List (List Int)) (w:World) (hM:Met w) (r:Rows2 w w.heap.size v cols) :
  Calls Tryz.prog 78 #[.int .i64 p,.int .i64 rows,v] w (Gets w (.int .i64 (rankI p rows cols))):=by
 have j:=hid r;have d:=hid hM;obtain ⟨A,c,rfl,_⟩:=r;unfold rankI;rcases hb:elimB p rows cols with _ | _
 ·have g:=hid hb
  clear hb hM;simp only [Bool.false_eq_true,if_false]
  go_enter Tryz.func78,Tryz.ntmps78
  go_wp2_with fail
  refine (Vh5 p rows _ cols false g.out w d.out j.out).mono ?_;exact k9_
 ·obtain ⟨k,R,rfl,h2,h3,m⟩:=elimB_in hb
  have g:=hid hb;have o:=hid (fun w1 (s:Met w1) (x:Rows2 w1 w1.heap.size (Value.slice A cols.length c) cols)=>Vv0 p R _ cols w1 s k x m h2 h3);have z:=Zr6 k m;change Hid (∀ w1,Met w1→Rows2 w1 w1.heap.size (Value.slice A cols.length c) cols→Calls Tryz.prog 106 #[.int .i64 p,.slice A cols.length c] w1 (Vh4 w1 (Yv6 p cols))) at o;generalize Yv6 p cols=ls at *
  clear hb hM k m;simp only [if_true]
  go_enter Tryz.func78,Tryz.ntmps78
  go_wp2_with fail
  refine (Vh5 p R _ cols true g.out w d.out j.out).mono ?_;rintro e w1 ⟨rfl,hb1⟩;have h:=hid hb1;clear hb1
  go_wp2_with fail
  refine (o.out w1 (d.out.up h.out) (j.out.up h.out)).mono ?_;rintro e C ⟨B,rfl,u,q⟩;have Hb2:=hid (Z0_ h.out (le_refl _) q);obtain ⟨y,c2,rfl,_⟩:=u;clear q;exact j2_
end Go.Proofs.YtigobiacbficaaaGreatDoor.Wp.L
